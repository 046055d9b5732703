import PyProof.Rows.All
import Wide.All
import OpenK.AllK
import Wide.FinOn
import Lean
import PyProof.EqAt
import PyProof.EqKinds
import PyProof.TupleCall
import PySem.Challenge.RW_askorder_k76_whole_uncovered_and_crowns
set_option Elab.async false
set_option linter.all false
set_option maxRecDepth 100000
open PySem.W renaming Frag → aa, nsIn → au, keepIn → av, codeIn → ay, fnOf → aD, mg_of → aG, mg_none_of → bb, findIn → bd, kia_one → bE, mroIn → bW, specialIn → cB, methodObj → cU, takesIn → cZ, findObj → c5, OpenLaw → c7, kitOne → df, InstAt → dg, excIn → dw, clsIn → dz, cellsFrom_some → dF, looks_findIn → dL, callWith_K → dX, kitx_list → ee, instObj → eF
open List renaming mem_filter → ac, mem_range → ad, getElem?_eq_getElem → ae, range → ag, mem_cons_self → ah, mem_cons → ai, replicate → aj, mem_cons_of_mem → ak, mem_singleton → am, length_map → aq, nodup_cons → aC, size_toArray → aE, mem_append → aF, mem_map → aI, length_append → aK, append_nil → aL, contains_iff_mem → aM, getElem?_map → aN, getD_eq_getElem?_getD → aO, map_map → aR, all_eq_true → aS, map_cons → aT, pairwise_cons → aU, mem_append_right → aW, pairwise_map → aY, append_assoc → aZ, map_append → a6, getElem?_eq_some_iff → a7, length_cons → a8, getElem?_append_left → a9, nodup_append → ba, length_filter_le → bc, getD → be, nodup_nil → bf, getElem?_set_ne → bg, getElem_mem → bh, filter_eq_nil_iff → bi, drop_eq_getElem_cons → bj, replicate_succ → bn, nodup_range → bp, perm_ext_iff_of_nodup → bq, pairwise_lt_range → br, getElem?_append_right → bv, flatten_cons → bx, filter_cons → bB, length_range → bG, length_eq_zero_iff → bH, getElem?_replicate → bI, any_eq_true → bK, pairwise_flatten → bL, getElem?_eq_none → bM, find?_cons → bN, mem_append_left → bO, filter_sublist → bR, mem_flatten → bS, mem_iff_getElem → bU, drop_length → bV, pairwise_iff_getElem → bX, filter_eq_self → bY, filterMap_cons → bZ, nil_append → b6, ne_nil_of_mem → b7, filter_append → b8, getElem?_set → b9, any_map → ca, mem_flatMap → cg, lookup_cons → cj, any_cons → ck, take_succ_cons → cv, filter_congr → cD, any_eq_false → cE, contains_eq_any_beq → cG, length_take → cH, getElem?_set_self → cK, length_set → cM, length_singleton → cN, take_zero → cO, getElem?_of_mem → cP, map_congr_left → cQ, length_pos_iff → cR, getElem?_range → cS, set_cons_zero → cW, set_cons_succ → cX, map_nil → cY, length_drop → dc, ext_getElem → de, range' → dh, eq_nil_of_length_eq_zero → dl, of_mem_zip → dm, mem_zipIdx_iff_getElem? → dq, length_nil → dv, nodup_iff_pairwise_ne → dA, length_eraseIdx_of_lt → dB, sublist_append_right → dH, exists_mem_of_ne_nil → dI, all_cons → dJ, getElem?_cons_succ → dM, filter_cons_of_pos → dN, filter_cons_of_neg → dO, eraseIdx_cons_succ → dP, take_of_length_le → dQ, map_set → dR, length_pos_of_mem → dS, drop_eq_nil_of_le → dU, all_map → dW, take_append_drop → d8, length_replicate → d9, pairwise_append → eu, mem_of_getElem? → ez, flatten_append → eD, flatMap_append → eE, mem_filterMap → eI, map_replicate → eJ, foldl → eK, find?_eq_none → eL
open Bool renaming false_ne_true → ao, and_eq_true → aJ, and_eq_true_iff → aV, or_eq_true → cq, eq_iff_iff → cr, not_eq_true → cI, or_eq_true_iff → cT, false_and → dD, and_false → dE
open Nat renaming le_refl → ar, ne_of_lt → aH, lt_of_lt_of_le → aP, le_trans → aQ, lt_succ_of_lt → bz, zero_le → bA, lt_irrefl → bC, le_of_succ_le → bP, le_succ → cn, ne_of_gt → cz, lt_succ_self → cJ, le_of_lt → cL, lt_trichotomy → c8, le_succ_of_le → c9, not_lt → dG, lt_trans → dY, lt_or_ge → dZ, le_of_eq → d7, le_of_ble_eq_true → el
open Option renaming bind_some → ax, map_some → bF, bind_none → bJ, isSome_iff_exists → cC, getD_some → cF, isSome_map → cV, isSome_some → eh, getD_none → eG
open Array renaming getElem?_eq_getElem → aX, length_toList → bQ, getD_eq_getD_getElem? → bT, getElem?_toList → cf, getElem?_eq_some_iff → cA, toList_push → eM
open Int renaming zero_add → cb, toNat_natCast → ce
noncomputable abbrev PySem.W.Fast.tw17300748723336284381:=PySem.Challenge.pw_askorder_k76_whole_uncovered_and_crowns
theorem PySem.W.Fast.te17300748723336284381 : PySem.Challenge.pw_askorder_k76_whole_uncovered_and_crowns=PySem.W.Fast.tw17300748723336284381:=rfl
namespace L2
open PySem PySem.Spec PyProof.Rows
noncomputable abbrev Key:=Sum Int Str
noncomputable def y0K : Key->Value->Bool
 | .inl k,v=>Value.isInt k v
 | .inr x,v=>Value.isStrOf x v
noncomputable def keyH (w : World) : Key->Int
 | .inl k=>hashInt k
 | .inr x=>hashStr w x
theorem z0J : ∀ {k : Key} {v : Value},y0K k v=true->(∃ i t,k=Sum.inl i∧v=Value.int i t)∨(∃ x t,k=Sum.inr x∧v=Value.str x t)
 | .inl i,v,h=>by
  obtain ⟨t,e⟩:=Value.isInt_shape (k:=i) (v:=v) h
  exact .inl ⟨i,t,rfl,e⟩
 | .inr x,v,h=>by
  obtain ⟨t,e⟩:=Value.isStrOf_shape (x:=x) (v:=v) h
  exact .inr ⟨x,t,rfl,e⟩
theorem y3m (i : Int) (t : Tok) : y0K (.inl i) (.int i t)=true:=by simp [y0K,Value.isInt]
theorem y5v (x : Str) (t : Tok) : y0K (.inr x) (.str x t)=true:=by simp [y0K,Value.isStrOf]
theorem key_ll (a b : Int) : decide ((Sum.inl a : Key)=Sum.inl b)=(a == b):=by
 by_cases e : a=b
 ·subst e; simp
 ·have h : ¬ (Sum.inl a : Key)=Sum.inl b:=fun q=>e (Sum.inl.inj q)
  rw [decide_eq_false h]
  exact (beq_eq_false_iff_ne.mpr e).symm
theorem key_rr (a b : Str) : decide ((Sum.inr a : Key)=Sum.inr b)=decide (a=b):=by
 by_cases e : a=b
 ·subst e; simp
 ·have h : ¬ (Sum.inr a : Key)=Sum.inr b:=fun q=>e (Sum.inr.inj q)
  rw [decide_eq_false h,decide_eq_false e]
theorem key_lr (a : Int) (b : Str) : decide ((Sum.inl a : Key)=Sum.inr b)=false:=decide_eq_false (fun q=>nomatch q)
theorem key_rl (a : Str) (b : Int) : decide ((Sum.inr a : Key)=Sum.inl b)=false:=decide_eq_false (fun q=>nomatch q)
noncomputable def z1g (prog : Program) (w : World) : PySem.KeyKind prog w Key where
 is:=y0K
 hash:=keyH w
 inj:=fun v a b ha hb=>by
  rcases z0J ha with ⟨i,t,rfl,rfl⟩ | ⟨x,t,rfl,rfl⟩
  ·rcases z0J hb with ⟨j,u,rfl,e⟩ | ⟨y,u,rfl,e⟩
   ·injection e with e1 _; rw [e1]
   ·exact nomatch e
  ·rcases z0J hb with ⟨j,u,rfl,e⟩ | ⟨y,u,rfl,e⟩
   ·exact nomatch e
   ·injection e with e1 _; rw [e1]
 byValue:=fun k v h=>by
  rcases z0J h with ⟨i,t,rfl,rfl⟩ | ⟨x,t,rfl,rfl⟩ <;> rfl
 pyHash:=fun hv h=>by
  rcases z0J hv with ⟨i,t,rfl,rfl⟩ | ⟨x,t,rfl,rfl⟩
  ·exact wpAny_pyHash_int h
  ·exact wpAny_pyHash_str h
 eqBool:=fun hu hv h=>by
  rcases z0J hu with ⟨i,t,rfl,rfl⟩ | ⟨x,t,rfl,rfl⟩
  ·rcases z0J hv with ⟨j,u,rfl,rfl⟩ | ⟨y,u,rfl,rfl⟩
   ·rw [key_ll] at h; exact wpAny_eqBool_int h
   ·rw [key_lr] at h; exact SeqAt.EqAt.int_str i t y u _ _ _ _ h
  ·rcases z0J hv with ⟨j,u,rfl,rfl⟩ | ⟨y,u,rfl,rfl⟩
   ·rw [key_rl] at h; exact SeqAt.EqAt.str_int x t j u _ _ _ _ h
   ·rw [key_rr] at h; exact wpAny_eqBool_str h
 «strs»:=fun k x t v h=>by
  rcases z0J h with ⟨i,u,rfl,e⟩ | ⟨y,u,rfl,e⟩
  ·exact nomatch e
  ·injection e with e1 _
   subst e1
   cases v <;> rfl
theorem y0A (prog : Program) (w : World) (i : Int) (t : Tok) : (z1g prog w).is (.inl i) (.int i t)=true:=y3m i t
theorem y0Q (prog : Program) (w : World) (x : Str) (t : Tok) : (z1g prog w).is (.inr x) (.str x t)=true:=y5v x t
end L2
namespace L2
open PySem PySem.Spec PyProof.Rows
inductive V where
 | non | bl (b : Bool) | int (i : Int) | str (x : Str) | byt (b : Array UInt8) | flt (b : UInt64) | ref (a : Addr) | ty (n : String)
 deriving DecidableEq
noncomputable def RelV : V->Value->Prop
 | .non,u=>u=Value.none
 | .bl b,u=>u=Value.bool b
 | .int i,u=>∃ t,u=Value.int i t
 | .str x,u=>∃ t,u=Value.str x t
 | .byt b,u=>∃ t,u=Value.bytes b t
 | .flt b,u=>∃ t,u=Value.float b t
 | .ref a,u=>u=Value.ref a
 | .ty n,u=>u=Value.type n
noncomputable abbrev Vals : List V->List Value->Prop:=Paired RelV
theorem Vals.length {xs : List V} {us : List Value} (r : Vals xs us) : xs.length=us.length:=Paired.length r
theorem Vals.get : ∀ {xs : List V} {us : List Value} {i : Nat} {x : V},Vals xs us->xs[i]? = some x->∃ u,us[i]? = some u∧RelV x u
 | _,_,_,_,.nil,e=>by simp at e
 | _,_,0,_,.cons r _,e=>by simp at e; subst e; exact ⟨_,rfl,r⟩
 | _,_,i + 1,x,.cons _ t,e=>by
  obtain ⟨u,h1,h2⟩:=Vals.get (i:=i) (x:=x) t (by simpa using e)
  exact ⟨u,by simpa using h1,h2⟩
theorem Vals.set {x : V} {u : Value} (r : RelV x u) : ∀ {xs : List V} {us : List Value} (i : Nat),Vals xs us->Vals (xs.set i x) (us.set i u)
 | _,_,_,.nil=>.nil
 | _,_,0,.cons _ t=>.cons r t
 | _,_,i + 1,.cons q t=>.cons q (Vals.set r i t)
theorem Vals.append : ∀ {xs ys : List V} {us ws : List Value},Vals xs us->Vals ys ws->Vals (xs ++ ys) (us ++ ws)
 | _,_,_,_,.nil,s=>s
 | _,_,_,_,.cons r t,s=>.cons r (Vals.append t s)
theorem Vals.take : ∀ {xs : List V} {us : List Value} (n : Nat),Vals xs us->Vals (xs.take n) (us.take n)
 | _,_,0,_=>.nil
 | _,_,_ + 1,.nil=>.nil
 | _,_,n + 1,.cons r t=>.cons r (Vals.take n t)
theorem Vals.drop : ∀ {xs : List V} {us : List Value} (n : Nat),Vals xs us->Vals (xs.drop n) (us.drop n)
 | _,_,0,r=>r
 | _,_,_ + 1,.nil=>.nil
 | _,_,n + 1,.cons _ t=>Vals.drop n t
noncomputable def RelO : Option V->Option Value->Prop
 | some v,some u=>RelV v u
 | none,none=>True
 | _,_=>False
noncomputable def KV {κ : Type} : List (κ × V)->List (κ × Value)->Prop:=Paired fun (p : κ × V) (q : κ × Value)=>p.1=q.1∧RelV p.2 q.2
noncomputable def kV : Key->V
 | .inl i=>.int i
 | .inr x=>.str x
inductive HO where
 | lst (xs : List V)
 | tup (xs : List V)
 | dK (kvs : List (Key × V)) | dT (kvs : List (List Key × V))
 | set (S : Int->Bool) (n : Nat)
 | ins (C dx : Addr) (fs : List (Str × V))
 | own (x : Addr)
 | xd (fs : List (Str × V))
 | met (f x : Addr)
 | rng (lo hi : Int)
 | frz (o : Obj) (u : HO)
 | tbl (ps : Array Value)
 | ext (φ : Heap->Prop)
noncomputable abbrev Hp:=Addr->Option HO
noncomputable def upd (H : Hp) (a : Addr) (o : HO) : Hp:=fun b=>if b=a then some o else H b
theorem z0o {H : Hp} {a : Addr} {o : HO} : upd H a o a=some o:=by unfold upd; rw [if_pos rfl]
theorem z0t {H : Hp} {a b : Addr} {o : HO} (h : b≠a) : upd H a o b=H b:=by unfold upd; rw [if_neg h]
theorem ne_of {H : Hp} {a b : Addr} {o u : HO} (h : H a=some o) (h' : H b=some u) (d : o≠u) : a≠b:=by
 intro e; subst e; rw [h] at h'; exact d (Option.some.inj h')
theorem z1q {H : Hp} {a b : Addr} {o : HO} (h : H a=some o) (h' : H b=none) : a≠b:=by
 intro e; subst e; rw [h] at h'; cases h'
section
variable (P : Program) (w : World)
noncomputable def TupN (h : Heap) (a : Addr) (items : Array Value) : Prop:=∃ o,h.get? a=some o∧(o.cls = .type "tuple" ∧ o.dict=none)∧∃ n,o.data = .seq items n
theorem TupN.is {h : Heap} {a : Addr} {items : Array Value} (x : TupN h a items) : IsTup h a items:=let ⟨o,e,c,n⟩:=x; ⟨o,e,c.1,n⟩
theorem TupN.lt {h : Heap} {a : Addr} {items : Array Value} (x : TupN h a items) : a < h.objs.size:=x.is.lt
theorem TupN.new (h : Heap) (items : Array Value) : TupN (h.push { cls:=.type "tuple",data:=.seq items }) h.objs.size items:=⟨_,Heap.get?_push_size _ rfl,⟨rfl,rfl⟩,_,rfl⟩
noncomputable def ObjOk (H : Hp) (h : Heap) (a : Addr) : HO->Prop
 | .lst xs=>xs.length≤sizeLine∧∃ (its : List Value) (n : Nat),Vals xs its∧h.get? a=some { cls:=.type "list",data:=.seq its.toArray n }
 | .tup xs=>xs.length≤sizeLine∧∃ its : List Value,Vals xs its∧TupN h a its.toArray
 | .dK kvs=>kvs.length≤sizeLine∧(a == sysModules)=false∧∃ vs,KV kvs vs∧h.DictOf (z1g P w) a vs
 | .dT kvs=>kvs.length≤sizeLine∧(a == sysModules)=false∧∃ xs : List (List Key × Addr × Value),
   Paired (fun (p : List Key × V) (q : List Key × Addr × Value)=>p.1=q.1∧H q.2.1=some (.tup (p.1.map kV))∧RelV p.2 q.2.2) kvs xs ∧
   ∃ o es ep,h.get? a=some o∧o.ExactDict∧o.data = .dict es ep∧es.toList=xs.map (entryOfKey (tupleKind (z1g P w)))∧(xs.map (·.1)).Nodup
 | .set S n=>h.SetOf (intKind P w) a S n
 | .ins C dx fs=>H dx=some (.own a)∧fs.length≤1000∧dx≠a∧h.get? a=some (eF C dx) ∧
   ∃ mA,h.Ns1 dx mA∧(∀ f,RelO (fs.lookup f) (mA f))∧PySem.Within mA (fs.map (·.1))
 | .own _=>∃ o,h.get? a=some o
 | .xd fs=>∃ mA,h.Ns1 a mA∧∀ f,RelO (fs.lookup f) (mA f)
 | .rng lo hi=>∃ t u v,h.get? a=some { cls:=.type "range",data:=.fields #[.int lo t,.int hi u,.int 1 v] }
 | .frz o u=>h.get? a=some o∧ObjOk H h a u
 | .tbl ps=>h.get? a=some { cls:=.none,data:=.fields ps }
 | .met f x=>h.get? a=some (cU (.ref f) (.ref x))
 | .ext φ=>φ h∧(∃ o,h.get? a=some o)∧∀ h1 h2 : Heap,φ h1->(∀ o,h1.get? a=some o->h2.get? a=some o)->φ h2
noncomputable def HOk (H : Hp) (h : Heap) : Prop:=∀ a o,H a=some o->ObjOk P w H h a o
end
section
variable {P : Program} {w : World} {H H' : Hp} {h h' : Heap} {a : Addr} {o : HO}
theorem ObjOk.lt (x : ObjOk P w H h a o) : a < h.objs.size:=by
 cases o with
 | lst xs=>obtain ⟨_,_,_,_,e⟩:=x; exact Heap.lt_size e
 | tup xs=>obtain ⟨_,_,_,p⟩:=x; exact p.lt
 | dK kvs=>obtain ⟨_,_,_,_,o,_,_,e,_⟩:=x; exact Heap.lt_size e
 | dT kvs=>obtain ⟨_,_,_,_,o,_,_,e,_⟩:=x; exact Heap.lt_size e
 | set S n=>obtain ⟨o,_,_,_,e,_⟩:=x; exact Heap.lt_size e
 | ins C dx fs=>obtain ⟨_,_,_,e,_⟩:=x; exact Heap.lt_size e
 | own y=>obtain ⟨_,e⟩:=x; exact Heap.lt_size e
 | xd fs=>obtain ⟨_,⟨_,_,_,e,_⟩,_⟩:=x; exact Heap.lt_size e
 | rng lo hi=>obtain ⟨_,_,_,e⟩:=x; exact Heap.lt_size e
 | frz ob u=>obtain ⟨e,_⟩:=x; exact Heap.lt_size e
 | tbl ps=>exact Heap.lt_size (show h.get? a=some _ from x)
 | met f y=>exact Heap.lt_size (show h.get? a=some _ from x)
 | ext φ=>obtain ⟨_,⟨_,e⟩,_⟩:=x; exact Heap.lt_size e
theorem Paired.mapP {α β : Type} {F G : α->β->Prop} : ∀ {l₁ : List α} {l₂ : List β},Paired F l₁ l₂->(∀ a b,F a b->G a b)->Paired G l₁ l₂
 | _,_,.nil,_=>.nil
 | _,_,.cons r t,f=>.cons (f _ _ r) (Paired.mapP t f)
theorem ObjOk.stay (x : ObjOk P w H h a o) (k : ∀ b u,(b=a∨H b=some (.own a))->h.get? b=some u->h'.get? b=some u)
  (ho : ∀ b,H b=some (.own a)->H' b=some (.own a)) (ht : ∀ b xs,H b=some (.tup xs)->H' b=some (.tup xs)) : ObjOk P w H' h' a o:=by
 induction o with
 | lst xs=>obtain ⟨z,its,n,r,e⟩:=x; exact ⟨z,its,n,r,k _ _ (.inl rfl) e⟩
 | tup xs=>obtain ⟨z,its,r,ob,e,c⟩:=x; exact ⟨z,its,r,ob,k _ _ (.inl rfl) e,c⟩
 | dK kvs=>obtain ⟨z,y,vs,r,ob,es,ep,e,c⟩:=x; exact ⟨z,y,vs,r,ob,es,ep,k _ _ (.inl rfl) e,c⟩
 | dT kvs=>
  obtain ⟨z,y,xs,r,ob,es,ep,e,c⟩:=x
  exact ⟨z,y,xs,Paired.mapP r fun p q z=>⟨z.1,ht _ _ z.2.1,z.2.2⟩,ob,es,ep,k _ _ (.inl rfl) e,c⟩
 | set S n=>obtain ⟨ob,es,ep,t,e,c⟩:=x; exact ⟨ob,es,ep,t,k _ _ (.inl rfl) e,c⟩
 | ins C dx fs=>
  obtain ⟨d,z,ne,e,mA,⟨od,es,ep,e2,c⟩,r⟩:=x
  exact ⟨ho _ d,z,ne,k _ _ (.inl rfl) e,mA,⟨od,es,ep,k _ _ (.inr d) e2,c⟩,r⟩
 | own y=>obtain ⟨ob,e⟩:=x; exact ⟨ob,k _ _ (.inl rfl) e⟩
 | xd fs=>obtain ⟨mA,⟨od,es,ep,e,c⟩,r⟩:=x; exact ⟨mA,⟨od,es,ep,k _ _ (.inl rfl) e,c⟩,r⟩
 | rng lo hi=>obtain ⟨t,u,v,e⟩:=x; exact ⟨t,u,v,k _ _ (.inl rfl) e⟩
 | frz ob u ih=>obtain ⟨e,q⟩:=x; exact ⟨k _ _ (.inl rfl) e,ih q⟩
 | tbl ps=>
  have e : h.get? a=some { cls:=.none,data:=.fields ps }:=x
  show h'.get? a=some { cls:=.none,data:=.fields ps }
  exact k a _ (.inl rfl) e
 | met f y=>
  have e : h.get? a=some (cU (.ref f) (.ref y)):=x
  show h'.get? a=some (cU (.ref f) (.ref y))
  exact k a _ (.inl rfl) e
 | ext φ=>obtain ⟨p,⟨o,e⟩,st⟩:=x; exact ⟨st _ _ p fun o q=>k _ _ (.inl rfl) q,⟨o,k _ _ (.inl rfl) e⟩,st⟩
theorem HOk.lt (x : HOk P w H h) (e : H a=some o) : a < h.objs.size:=(x a o e).lt
theorem HOk.fresh (x : HOk P w H h) (e : h.objs.size≤a) : H a=none:=by
 cases q : H a with
 | none=>rfl
 | some u=>exact absurd (aP (x.lt q) e) (bC _)
theorem HOk.kept (x : HOk P w H h) (k : ∀ b u,h.get? b=some u->h'.get? b=some u) : HOk P w H h':=fun a o e=>
 (x a o e).stay (fun b u _ q=>k b u q) (fun _ q=>q) fun _ _ q=>q
theorem HOk.laid (x : HOk P w H h) (k : ∀ b u,h.get? b=some u->h'.get? b=some u) (hp : h.objs.size≤a) (new : ObjOk P w (upd H a o) h' a o) : HOk P w (upd H a o) h':=fun b u e=>by
 have hn:=x.fresh hp
 by_cases hb : b=a
 ·subst hb; rw [z0o] at e; cases e; exact new
 ·rw [z0t hb] at e
  exact (x b u e).stay (fun c v _ q=>k c v q) (fun c q=>by rw [z0t (z1q q hn)]; exact q) fun c xs q=>by rw [z0t (z1q q hn)]; exact q
end
noncomputable def Rd (H : Hp) (a : Addr) (u : HO) : Prop:=H a=some u∨∃ o,H a=some (.frz o u)
theorem Rd.ok {P : Program} {w : World} {H : Hp} {h : Heap} {a : Addr} {u : HO} (r : Rd H a u) (x : HOk P w H h) : ObjOk P w H h a u:=by
 rcases r with r | ⟨o,r⟩
 ·exact x a u r
 ·obtain ⟨_,q⟩:=x a _ r
  exact q
noncomputable def Mut : Option HO->Prop
 | some (.lst _)=>True
 | some (.dK _)=>True
 | some (.dT _)=>True
 | some (.set _ _)=>True
 | some (.ins _ _ _)=>True
 | some (.ext _)=>True
 | _=>False
section
variable {P : Program} {w : World} {H : Hp} {h h' : Heap} {x e : Addr} {o' : HO}
theorem HOk.write (ok : HOk P w H h) (mu : Mut (H x)) (he : e=x∨H e=some (.own x)) (k : ∀ b u,b≠e->h.get? b=some u->h'.get? b=some u) (heo : ∃ u,h'.get? e=some u)
  (new : ObjOk P w (upd H x o') h' x o') : HOk P w (upd H x o') h':=fun b u q=>by
 have nown : ∀ c y,H c=some (.own y)->c≠x:=fun c y r z=>by subst z; rw [r] at mu; exact mu
 have ntup : ∀ c xs,H c=some (.tup xs)->c≠x:=fun c xs r z=>by subst z; rw [r] at mu; exact mu
 by_cases hb : b=x
 ·subst hb; rw [z0o] at q; cases q; exact new
 ·rw [z0t hb] at q
  by_cases hbe : b=e
  ·have q' : H b=some (.own x):=by
    rcases he with z | z
    ·exact absurd (hbe.trans z) hb
    ·rw [hbe]; exact z
   rw [q] at q'; cases q'
   obtain ⟨v,hv⟩:=heo
   exact ⟨v,by rw [hbe]; exact hv⟩
  ·refine (ok b u q).stay (fun c v hc r=>k c v ?_ r) (fun c r=>by rw [z0t (nown c b r)]; exact r) fun c xs r=>by rw [z0t (ntup c xs r)]; exact r
   rcases hc with rfl | hc
   ·exact hbe
   ·rintro rfl
    rcases he with z | z
    ·exact nown c b hc z
    ·rw [hc] at z; cases z; exact hb rfl
end
structure Un (fs ex : List Addr) (H H' : Hp) (h h' : Heap) : Prop where
 keep : ∀ b o,h.get? b=some o->H b=none->b ∉ fs->b ∉ ex->h'.get? b=some o
 slot : ∀ b o,h.get? b=some o->H b=none->b∈fs->b ∉ ex->∃ sl,h'.get? b=some { o with slots:=sl }
 free : ∀ b o,h.get? b=some o->H b=none->b ∉ ex->H' b=none
 there : ∀ b o,h.get? b=some o->b ∉ ex->∃ o',h'.get? b=some o'
 tups : ∀ b xs,H b=some (.tup xs)->H' b=some (.tup xs)
 frzs : ∀ b o u,H b=some (.frz o u)->H' b=some (.frz o u)
 tbls : ∀ b ps,H b=some (.tbl ps)->∃ more,H' b=some (.tbl (ps ++ more))
section
variable {fs fs' ex ex' : List Addr} {H H1 H2 : Hp} {h h1 h2 h' : Heap} {a x e : Addr} {o : HO}
theorem Un.any (u : Un fs ex H H1 h h1) {b : Addr} {ob : Obj} (q : h.get? b=some ob) (n : H b=none) (hx : b ∉ ex) : ∃ sl,h1.get? b=some { ob with slots:=sl }:=by
 by_cases hb : b∈fs
 ·exact u.slot b ob q n hb hx
 ·exact ⟨ob.slots,u.keep b ob q n hb hx⟩
theorem Un.kept (k : ∀ b u,h.get? b=some u->h'.get? b=some u) : Un fs ex H H h h':=
 ⟨fun b ob q _ _ _=>k b ob q,fun b ob q _ _ _=>⟨ob.slots,k b ob q⟩,fun _ _ _ n _=>n,fun b ob q _=>⟨ob,k b ob q⟩,fun _ _ q=>q,fun _ _ _ q=>q,fun _ ps q=>⟨#[],by rw [q]; simp⟩⟩
theorem Un.refl : Un fs ex H H h h:=Un.kept fun _ _ q=>q
theorem Un.laid (k : ∀ b u,h.get? b=some u->h'.get? b=some u) (hp : h.objs.size≤a) (hn : H a=none) : Un fs ex H (upd H a o) h h' where
 keep:=fun b u q _ _ _=>k b u q
 slot:=fun b u q _ _ _=>⟨u.slots,k b u q⟩
 free:=fun b u q n _=>by rw [z0t (aH (aP (Heap.lt_size q) hp))]; exact n
 there:=fun b u q _=>⟨u,k b u q⟩
 tups:=fun b xs q=>by rw [z0t (z1q q hn)]; exact q
 frzs:=fun b u xs q=>by rw [z0t (z1q q hn)]; exact q
 tbls:=fun b ps q=>⟨#[],by rw [z0t (z1q q hn),q]; simp⟩
theorem Un.write (mu : Mut (H x)) (he : e=x∨H e=some (.own x)) (k : ∀ b u,b≠e->h.get? b=some u->h'.get? b=some u) (heo : ∃ u,h'.get? e=some u) : Un fs ex H (upd H x o) h h':=by
 have hx : ∀ b,H b=none->b≠x:=fun b n z=>by subst z; rw [n] at mu; exact mu
 have hb : ∀ b,H b=none->b≠e:=fun b n z=>by
  subst z
  rcases he with r | r
  ·exact hx b n r
  ·rw [n] at r; cases r
 have hm : ∀ b u,H b=some u->¬ Mut (some u)->b≠x:=fun b u q nm z=>by subst z; rw [q] at mu; exact nm mu
 refine ⟨fun b u q n _ _=>k b u (hb b n) q,fun b u q n _ _=>⟨u.slots,k b u (hb b n) q⟩,fun b u q n _=>by rw [z0t (hx b n)]; exact n,fun b u q _=>?_,
  fun b xs q=>by rw [z0t (hm b _ q fun z=>z)]; exact q,fun b u xs q=>by rw [z0t (hm b _ q fun z=>z)]; exact q,fun b ps q=>⟨#[],by rw [z0t (hm b _ q fun z=>z),q]; simp⟩⟩
 by_cases hbe : b=e
 ·subst hbe; exact heo
 ·exact ⟨u,k b u hbe q⟩
end
noncomputable def trk (h : Heap) (H : Hp) : List Addr:=(ag h.objs.size).filter fun a=>(H a).isSome
noncomputable def y7X (h : Heap) (H : Hp) : Heap:=PySem.W.hideAll h (trk h H)
theorem y2Y (h : Heap) (H : Hp) : (y7X h H).objs.size=h.objs.size:=PySem.W.hideAll_size _ _
theorem y7j {h : Heap} {H : Hp} {b : Addr} {o : Obj} (e : h.get? b=some o) (n : H b=none) : (y7X h H).get? b=some o:=
 PySem.W.hideAll_get _ e fun hm=>by
  have q : (H b).isSome=true:=(ac.mp hm).2
  rw [n] at q; simp at q
theorem of_hidT {h : Heap} {H : Hp} {b : Addr} {o : Obj} (e : (y7X h H).get? b=some o) : h.get? b=some o∧H b=none:=by
 have e' : h.get? b=some o:=PySem.W.of_hideAll (trk h H) e
 refine ⟨e',?_⟩
 cases q : H b with
 | none=>rfl
 | some x=>
  have hm : b∈trk h H:=ac.mpr ⟨ad.mpr (Heap.lt_size e'),by simp [q]⟩
  have z : (y7X h H).get? b=none:=PySem.W.hideAll_none (trk h H) hm
  rw [z] at e; cases e
noncomputable def allNews (g h : Heap) (L : Addr) : List (Addr × Obj):=(ag h.objs.size).filterMap fun a=>if a=L∨(g.get? a).isSome=true then none else (h.get? a).map fun o=>(a,o)
noncomputable def rest (g h : Heap) (L d : Addr) : List (Addr × Obj):=(allNews g h L).filter fun p=>decide (p.1≠d)
end L2
namespace L2
open PySem PySem.Spec PyProof.Rows
structure Mod (K : aa) (mg : Str->Option Value) (base : Heap) : Prop where
 kin : K.In base
 glob : base.Ns mainGlobals mg
 blt : ∃ mb,base.Ns builtinsNs mb∧∀ x : Str,x ≠ "__name__" → mb x=bootBuiltins x
 nolimit : base.NoLimit
structure Cx where
 prog : Program
 w : World
 K : aa
 mg : Str->Option Value
 base : Heap
 A : Around
 N : List Str
 s₀ : Shared
 H₀ : Hp
 env : Env
 outer : List Env
 stack : List Env
 ex : List Addr
 fn : Str->Bool
 calm : Bool
 pn : List (Addr × Obj)
 xe : Value->Shared->Prop
noncomputable def frs (l : List Env) : List Addr:=l.filterMap (·.frame)
noncomputable abbrev Cx.fs (X : Cx) : List Addr:=frs X.outer
noncomputable def Vis (sc : Scope) (x : Str) : Prop:=sc.names.lookup x=some .local∨sc.names.lookup x=some .cell∨sc.names.lookup x=some .free
noncomputable def Loc (sc : Scope) (x : Str) : Prop:=sc.names.lookup x=some .local∨sc.names.lookup x=some .cell
noncomputable def Look (env : Env) (h : Heap) (m : Str->Option Value) (x : Str) (u : Value) : Prop:=
 (env.kindOf x=some .local∧m x=some u)∨((env.kindOf x=some .cell∨env.kindOf x=some .free)∧∃ c,env.cells.lookup x=some c∧h.IsCell c (some u))
structure Cx.Ok (X : Cx) : Prop where
 mod : Mod X.K X.mg X.base
 kind : X.env.scope.kind = .function
 glob : X.env.globals=mainGlobals
 blt : X.env.builtins=builtinsNs
 above : X.s₀.heap.objs.size≤X.env.locals
 inj : ∀ x y c,X.env.cells.lookup x=some c->X.env.cells.lookup y=some c->x=y
 has : ∀ x,(X.env.kindOf x=some .cell∨X.env.kindOf x=some .free)->∃ c,X.env.cells.lookup x=some c
 cab : ∀ x c,X.fn x=true->X.env.cells.lookup x=some c->X.s₀.heap.objs.size≤c
 hd : X.calm=true->X.A.handled=none
 frames : X.A.frames=some X.stack
 stk : X.stack=X.outer∨(X.stack=X.env :: X.outer∧X.env.frame=some X.env.locals)
 exf : ∀ b∈X.ex,b≠X.env.locals∧∀ x c,X.env.cells.lookup x=some c->c≠b
 bs : ∀ b o,X.base.get? b=some o->X.s₀.heap.get? b=some o∧X.H₀ b=none
 bsz : X.base.objs.size≤X.s₀.heap.objs.size
 noex : ∀ b o,X.base.get? b=some o->b ∉ X.ex
 exfs : ∀ b∈X.ex,b ∉ X.fs
 funs : X.s₀.heap.FunFrames X.base X.outer
 frf : ∀ b∈X.fs,X.H₀ b=none
structure Inv (X : Cx) (pins : List (Addr × Obj)) (σ : List (Option V)) (H : Hp) (s : Shared) : Prop where
 ok : X.Ok
 os : s.os=X.s₀.os
 bare : AllBare s.gens
 base : Un X.fs X.ex X.H₀ H X.s₀.heap s.heap
 loc : ∃ m,s.heap.Ns X.env.locals m∧∀ (i : Nat) (x : Str) (v : V),X.N[i]? = some x->σ[i]? = some (some v)->Vis X.env.scope x->∃ u,RelV v u∧Look X.env s.heap m x u
 cell : ∀ x c,X.env.cells.lookup x=some c->∃ v,s.heap.IsCell c v
 free : H X.env.locals=none
 freeC : ∀ x c,X.env.cells.lookup x=some c->H c=none
 pin : ∀ p∈X.pn ++ pins,s.heap.get? p.1=some p.2∧H p.1=none∧p.1≠X.env.locals∧p.1 ∉ X.fs∧∀ v,p.2.data≠.cell v
 hok : HOk X.prog X.w H s.heap
 len : σ.length=X.N.length
section
variable {X : Cx} {pins : List (Addr × Obj)} {σ : List (Option V)} {H H' : Hp} {s : Shared} {h' : Heap}
theorem Cx.Ok.nofr (ok : X.Ok) {b : Addr} {o : Obj} (e : X.base.get? b=some o) : b ∉ X.fs:=fun hb=>by
 have:=(ok.funs.mem hb).1
 rw [e] at this; cases this
theorem Inv.bs (I : Inv X pins σ H s) : ∀ b o,X.base.get? b=some o->s.heap.get? b=some o∧H b=none:=fun b o e=>
 ⟨I.base.keep b o (I.ok.bs b o e).1 (I.ok.bs b o e).2 (I.ok.nofr e) (I.ok.noex b o e),I.base.free b o (I.ok.bs b o e).1 (I.ok.bs b o e).2 (I.ok.noex b o e)⟩
theorem Inv.bk (I : Inv X pins σ H s) : ∀ b o,X.base.get? b=some o->s.heap.get? b=some o:=fun b o e=>(I.bs b o e).1
theorem Inv.mod (I : Inv X pins σ H s) : Mod X.K X.mg X.base:=I.ok.mod
theorem Inv.kIn (I : Inv X pins σ H s) : X.K.In s.heap:=I.ok.mod.kin.keeps I.bk
theorem Inv.lt (I : Inv X pins σ H s) : X.env.locals < s.heap.objs.size:=let ⟨_,hn,_⟩:=I.loc; hn.lt
theorem Inv.sz (I : Inv X pins σ H s) : X.s₀.heap.objs.size≤s.heap.objs.size:=aQ I.ok.above (cL I.lt)
theorem Inv.nofs (I : Inv X pins σ H s) {a : Addr} (h : s.heap.objs.size≤a) : a ∉ X.fs:=fun hb=>by
 obtain ⟨_,o,ho,_⟩:=I.ok.funs.mem hb
 exact absurd (aP (Heap.lt_size ho) (aQ I.sz h)) (bC _)
theorem Inv.cne (I : Inv X pins σ H s) : ∀ x c,X.env.cells.lookup x=some c->c≠X.env.locals:=fun x c e z=>by
 obtain ⟨v,o,ho,hd⟩:=I.cell x c e
 obtain ⟨m,⟨o',es,ep,ho',hd',_⟩,_⟩:=I.loc
 rw [z,ho'] at ho; cases ho; rw [hd'] at hd; cases hd
theorem Inv.funs (I : Inv X pins σ H s) : s.heap.FunFrames X.base X.outer:=by
 have all : ∀ (l : List Env),(∀ b∈frs l,b∈X.fs)->X.s₀.heap.FunFrames X.base l->s.heap.FunFrames X.base l:=by
  intro l
  induction l with
  | nil=>intro _ _; trivial
  | cons env r ih=>
   intro hs hl
   obtain ⟨hk,⟨L,o,hf,hn,ho,hd⟩,hr⟩:=hl
   have hL : L∈X.fs:=hs L (by unfold frs; rw [bZ,hf]; exact ah)
   obtain ⟨sl,e⟩:=I.base.slot L o ho (I.ok.frf L hL) hL fun z=>I.ok.exfs L z hL
   exact ⟨hk,⟨L,_,hf,hn,e,hd⟩,ih (fun b hb=>hs b (by unfold frs; rw [bZ,hf]; exact ak _ hb)) hr⟩
 exact all X.outer (fun _ hb=>hb) I.ok.funs
theorem Inv.stack (I : Inv X pins σ H s) : s.heap.FunFrames X.base X.stack:=by
 rcases I.ok.stk with e | ⟨e,hf⟩
 ·rw [e]; exact I.funs
 ·rw [e]
  obtain ⟨m,hn,_⟩:=I.loc
  refine .cons (by rw [I.ok.kind]; decide) hf hn ?_ I.funs
  exact Heap.get?_none_of_le (aQ I.ok.bsz I.ok.above)
theorem Inv.stkSub (I : Inv X pins σ H s) : ∀ b∈frs X.stack,b∈X.env.locals :: X.fs:=fun b hb=>by
 rcases I.ok.stk with e | ⟨e,hf⟩
 ·rw [e] at hb; exact ak _ hb
 ·rw [e] at hb
  unfold frs at hb
  rw [bZ,hf] at hb
  exact hb
theorem Inv.stkFree (I : Inv X pins σ H s) : ∀ b∈frs X.stack,H b=none:=fun b hb=>by
 rcases ai.mp (I.stkSub b hb) with e | hb
 ·rw [e]; exact I.free
 ·obtain ⟨_,o,ho,_⟩:=I.ok.funs.mem hb
  exact I.base.free b o ho (I.ok.frf b hb) fun z=>I.ok.exfs b z hb
theorem Inv.step {g' : Array GenState} {t' : Nat} {d' : Drawn} {ch : List Addr} (I : Inv X pins σ H s)
  (hch : ∀ b∈ch,(b∈X.ex∨X.s₀.heap.objs.size≤b)∧b≠X.env.locals∧(∀ x c,X.env.cells.lookup x=some c->c≠b)∧∀ p∈X.pn ++ pins,p.1≠b)
  (keep : ∀ b o,b≠X.env.locals->b ∉ X.fs->b ∉ ch->s.heap.get? b=some o->H b=none->h'.get? b=some o)
  (slot : ∀ b o,b≠X.env.locals->b∈X.fs->b ∉ ch->s.heap.get? b=some o->H b=none->∃ sl,h'.get? b=some { o with slots:=sl }) (free : ∀ b o,b ∉ ch->s.heap.get? b=some o->H b=none->H' b=none)
  (there : ∀ b o,b ∉ ch->s.heap.get? b=some o->∃ o',h'.get? b=some o')
  (tups : ∀ b xs,H b=some (.tup xs)->H' b=some (.tup xs)) (frzs : ∀ b o u,H b=some (.frz o u)->H' b=some (.frz o u)) (tbls : ∀ b ps,H b=some (.tbl ps)->∃ more,H' b=some (.tbl (ps ++ more)))
  (ns : ∀ m,s.heap.Ns X.env.locals m->h'.Ns X.env.locals m) (hok : HOk X.prog X.w H' h') (hg : AllBare g') :
  Inv X pins σ H' { s with heap:=h',gens:=g',drawn:=d',toks:=t' }:=by
 have neL : ∀ b o,X.s₀.heap.get? b=some o->b≠X.env.locals:=fun b o e=>aH (aP (Heap.lt_size e) I.ok.above)
 have neC : ∀ b o,X.s₀.heap.get? b=some o->b ∉ X.ex->b ∉ ch:=fun b o e hx hb=>by
  rcases (hch b hb).1 with z | z
  ·exact hx z
  ·exact absurd (aP (Heap.lt_size e) z) (bC _)
 have cellK : ∀ x c,X.env.cells.lookup x=some c->∀ v,s.heap.IsCell c v->h'.IsCell c v:=fun x c e v z_=>by
  obtain ⟨o,ho,hd⟩:=z_
  have nch : c ∉ ch:=fun z=>(hch c z).2.2.1 x c e rfl
  by_cases hc : c∈X.fs
  ·obtain ⟨sl,q⟩:=slot c o (I.cne x c e) hc nch ho (I.freeC x c e)
   exact ⟨_,q,hd⟩
  ·exact ⟨o,keep c o (I.cne x c e) hc nch ho (I.freeC x c e),hd⟩
 refine ⟨I.ok,I.os,hg,⟨fun b o e n hb hx=>?_,fun b o e n hb hx=>?_,fun b o e n hx=>?_,fun b o e hx=>?_,fun b xs e=>tups b xs (I.base.tups b xs e),fun b o xs e=>frzs b o xs (I.base.frzs b o xs e),fun b ps e=>?_⟩,?_,fun x c e=>?_,?_,fun x c e=>?_,fun p hp=>?_,hok,I.len⟩
 ·exact keep b o (neL b o e) hb (neC b o e hx) (I.base.keep b o e n hb hx) (I.base.free b o e n hx)
 ·obtain ⟨sl,e1⟩:=I.base.slot b o e n hb hx
  obtain ⟨sl',e2⟩:=slot b _ (neL b o e) hb (neC b o e hx) e1 (I.base.free b o e n hx)
  exact ⟨sl',e2⟩
 ·obtain ⟨o',e1⟩:=I.base.there b o e hx
  exact free b o' (neC b o e hx) e1 (I.base.free b o e n hx)
 ·obtain ⟨o',e1⟩:=I.base.there b o e hx
  exact there b o' (neC b o e hx) e1
 ·obtain ⟨m1,e1⟩:=I.base.tbls b ps e
  obtain ⟨m2,e2⟩:=tbls b _ e1
  exact ⟨m1 ++ m2,by rw [e2,Array.append_assoc]⟩
 ·obtain ⟨m,hn,hl⟩:=I.loc
  refine ⟨m,ns m hn,fun i x v e1 e2 e3=>?_⟩
  obtain ⟨u,r,l⟩:=hl i x v e1 e2 e3
  refine ⟨u,r,?_⟩
  rcases l with l | ⟨k,c,e,z⟩
  ·exact .inl l
  ·exact .inr ⟨k,c,e,cellK x c e _ z⟩
 ·obtain ⟨v,z⟩:=I.cell x c e
  exact ⟨v,cellK x c e v z⟩
 ·obtain ⟨m,⟨o,_,_,ho,_⟩,_⟩:=I.loc
  exact free _ o (fun z=>(hch _ z).2.1 rfl) ho I.free
 ·obtain ⟨v,o,ho,hd⟩:=I.cell x c e
  exact free c o (fun z=>(hch c z).2.2.1 x c e rfl) ho (I.freeC x c e)
 ·obtain ⟨e,n,ne,nf,d⟩:=I.pin p hp
  have nch : p.1 ∉ ch:=fun z=>(hch p.1 z).2.2.2 p hp rfl
  exact ⟨keep p.1 p.2 ne nf nch e n,free p.1 p.2 nch e n,ne,nf,d⟩
theorem Inv.un {t' : Nat} (I : Inv X pins σ H s) (u : Un X.fs [] H H' s.heap h') (hok : HOk X.prog X.w H' h') : Inv X pins σ H' { s with heap:=h',toks:=t' }:=by
 obtain ⟨m,⟨o,es,ep,ho,r⟩,_⟩:=id I.loc
 obtain ⟨sl,hL⟩:=u.any ho I.free (by simp)
 exact I.step (g':=s.gens) (d':=s.drawn) (ch:=[]) (fun _ z=>nomatch z) (fun b o _ hb _ e n=>u.keep b o e n hb (by simp)) (fun b o _ hb _ e n=>u.slot b o e n hb (by simp)) (fun b o _ e n=>u.free b o e n (by simp)) (fun b o _ e=>u.there b o e (by simp)) u.tups u.frzs u.tbls (fun m' hm=>by
  obtain ⟨o',es',ep',ho',r'⟩:=hm
  rw [ho] at ho'; cases ho'
  exact ⟨_,es',ep',hL,r'⟩) hok I.bare
theorem Inv.call {g' : Array GenState} {t' : Nat} {d' : Drawn} {ch : List Addr} (I : Inv X pins σ H s) (u : Un (frs X.stack) ch H H' s.heap h') (hok : HOk X.prog X.w H' h') (hg : AllBare g')
  (hch : ∀ b∈ch,(b∈X.ex∨X.s₀.heap.objs.size≤b)∧b≠X.env.locals∧(∀ x c,X.env.cells.lookup x=some c->c≠b)∧∀ p∈X.pn ++ pins,p.1≠b) :
  Inv X pins σ H' { s with heap:=h',gens:=g',drawn:=d',toks:=t' }:=by
 obtain ⟨m,⟨o,es,ep,ho,r⟩,_⟩:=id I.loc
 obtain ⟨sl,hL⟩:=u.any ho I.free fun z=>(hch _ z).2.1 rfl
 exact I.step (ch:=ch) hch (fun b o hL hb hc e n=>u.keep b o e n (fun z=>(ai.mp (I.stkSub b z)).elim hL hb) hc) (fun b o _ _ hc e n=>u.any e n hc) (fun b o hc e n=>u.free b o e n hc) (fun b o hc e=>u.there b o e hc) u.tups u.frzs u.tbls (fun m' hm=>by
  obtain ⟨o',es',ep',ho',r'⟩:=hm
  rw [ho] at ho'; cases ho'
  exact ⟨_,es',ep',hL,r'⟩) hok hg
theorem Inv.turned {t' : Nat} {it : Addr} (I : Inv X pins σ H s) (k : ∀ b o,b≠it->s.heap.get? b=some o->h'.get? b=some o) (hn : H it=none) (hL : it≠X.env.locals)
  (h1 : it∈X.ex∨X.s₀.heap.objs.size≤it) (h2 : ∀ x c,X.env.cells.lookup x=some c->c≠it) (h3 : ∀ p∈X.pn ++ pins,p.1≠it) : Inv X pins σ H { s with heap:=h',toks:=t' }:=by
 have nit : ∀ b u,H b=some u->b≠it:=fun b u e z=>by rw [z,hn] at e; cases e
 refine I.step (g':=s.gens) (d':=s.drawn) (ch:=[it]) (fun b hb=>?_) (fun b o _ _ hc e _=>k b o (fun z=>hc (by simp [z])) e) (fun b o _ _ hc e _=>⟨o.slots,k b o (fun z=>hc (by simp [z])) e⟩) (fun _ _ _ _ n=>n)
  (fun b o hc e=>⟨o,k b o (fun z=>hc (by simp [z])) e⟩) (fun _ _ e=>e) (fun _ _ _ e=>e) (fun b ps e=>⟨#[],by rw [e]; simp⟩) (fun m hm=>?_) (fun b u e=>?_) I.bare
 ·have e : b=it:=by simpa using hb
  subst e
  exact ⟨h1,hL,h2,h3⟩
 ·obtain ⟨o,es,ep,ho,r⟩:=hm
  exact ⟨o,es,ep,k _ o (Ne.symm hL) ho,r⟩
 ·refine (I.hok b u e).stay (fun c v hc q=>k c v ?_ q) (fun _ q=>q) fun _ _ q=>q
  rcases hc with z | z
  ·rw [z]; exact nit b u e
  ·exact nit c _ z
theorem Inv.tok (I : Inv X pins σ H s) (t : Nat) : Inv X pins σ H { s with toks:=t }:=I.un (h':=s.heap) (t':=t) Un.refl I.hok
theorem Inv.kept {t' : Nat} (I : Inv X pins σ H s) (k : ∀ b u,s.heap.get? b=some u->h'.get? b=some u) : Inv X pins σ H { s with heap:=h',toks:=t' }:=I.un (Un.kept k) (I.hok.kept k)
theorem Inv.laid {a : Addr} {o : HO} {t' : Nat} (I : Inv X pins σ H s) (k : ∀ b u,s.heap.get? b=some u->h'.get? b=some u) (hp : s.heap.objs.size≤a) (new : ObjOk X.prog X.w (upd H a o) h' a o) :
  Inv X pins σ (upd H a o) { s with heap:=h',toks:=t' }:=I.un (Un.laid k hp (I.hok.fresh hp)) (I.hok.laid k hp new)
theorem Inv.write {x e : Addr} {o : HO} {t' : Nat} (I : Inv X pins σ H s) (mu : Mut (H x)) (he : e=x∨H e=some (.own x)) (k : ∀ b u,b≠e->s.heap.get? b=some u->h'.get? b=some u) (heo : ∃ u,h'.get? e=some u)
  (new : ObjOk X.prog X.w (upd H x o) h' x o) : Inv X pins σ (upd H x o) { s with heap:=h',toks:=t' }:=I.un (Un.write mu he k heo) (I.hok.write mu he k heo new)
theorem Inv.pins_of {pins' : List (Addr × Obj)} (I : Inv X pins σ H s) (h : ∀ p∈pins',s.heap.get? p.1=some p.2∧H p.1=none∧p.1≠X.env.locals∧p.1 ∉ X.fs∧∀ v,p.2.data≠.cell v) : Inv X pins' σ H s:=
 ⟨I.ok,I.os,I.bare,I.base,I.loc,I.cell,I.free,I.freeC,fun p hp=>(aF.mp hp).elim (fun z=>I.pin p (bO _ z)) (h p),I.hok,I.len⟩
theorem y1A {N : List Str} (hN : N.Nodup) {i j : Nat} {x : Str} (a : N[i]? = some x) (b : N[j]? = some x) : i=j:=by
 obtain ⟨h1,e1⟩:=a7.mp a
 obtain ⟨h2,e2⟩:=a7.mp b
 exact (List.getElem_inj hN).mp (e1.trans e2.symm)
theorem z9k {M : Model} {A : Around} {E : Value->Shared->Prop} {i : Nat} {x : Str} {v : V} {u : Value} {Q : Unit->Shared->Prop} (I : Inv X pins σ H s) (hN : X.N.Nodup) (hi : X.N[i]? = some x) (hx : Loc X.env.scope x) (r : RelV v u)
  (h : ∀ s',Inv X pins (σ.set i (some v)) H s'->(∃ a,Heap.SameBut a s.heap s'.heap∧(a=X.env.locals∨X.env.cells.lookup x=some a))->Q () s') (hf : X.fn x=true∨X.env.scope.names.lookup x=some .local:=by first | exact .inl rfl | exact .inr rfl | assumption) : wpAny M A (storeName X.env x u) Q E s:=by
 obtain ⟨m,hn,hl⟩:=id I.loc
 have hcls : (X.env.scope.kind == .class || (X.env.scope.kind == .module && X.env.locals != X.env.globals))=false:=by rw [I.ok.kind]; rfl
 have hiσ : i < σ.length:=by rw [I.len]; exact (a7.mp hi).1
 have cne:=I.cne
 have tracked : ∀ {a : Addr} {h' : Heap},(∃ o,s.heap.get? a=some o∧H a=none)->Heap.SameBut a s.heap h'->HOk X.prog X.w H h':=fun {a h'} ha hs b ob e=>by
  obtain ⟨_,_,hfree⟩:=ha
  refine (I.hok b ob e).stay (fun c w' hc q=>(hs.2 c ?_).trans q) (fun _ q=>q) fun _ _ q=>q
  rintro rfl
  rcases hc with rfl | hc
  ·rw [hfree] at e; cases e
  ·rw [hfree] at hc; cases hc
 rcases hx with hk | hk
 ·refine wpAny_storeName_local hk hn (fun h' hn' hs=>?_) hcls
  obtain ⟨oL,_,_,hoL,_⟩:=id hn
  refine h _ ⟨I.ok,I.os,I.bare,⟨fun b o e n hb hx=>?_,fun b o e n hb hx=>?_,I.base.free,fun b o e hx=>?_,I.base.tups,I.base.frzs,I.base.tbls⟩,⟨_,hn',fun j y v' e1 e2 e3=>?_⟩,fun y c e=>?_,I.free,I.freeC,fun p hp=>?_,tracked ⟨oL,hoL,I.free⟩ hs,by simpa using I.len⟩ ⟨_,hs,.inl rfl⟩
  ·exact (hs.2 b (aH (aP (Heap.lt_size e) I.ok.above))).trans (I.base.keep b o e n hb hx)
  ·obtain ⟨sl,e1⟩:=I.base.slot b o e n hb hx
   exact ⟨sl,(hs.2 b (aH (aP (Heap.lt_size e) I.ok.above))).trans e1⟩
  ·obtain ⟨o',e1⟩:=I.base.there b o e hx
   exact ⟨o',(hs.2 b (aH (aP (Heap.lt_size e) I.ok.above))).trans e1⟩
  ·by_cases hj : j=i
   ·subst hj
    rw [hi] at e1; cases e1
    rw [cK hiσ] at e2
    cases e2
    exact ⟨u,r,.inl ⟨hk,by simp⟩⟩
   ·rw [bg (Ne.symm hj)] at e2
    obtain ⟨u',r',q⟩:=hl j y v' e1 e2 e3
    refine ⟨u',r',?_⟩
    rcases q with ⟨k,e⟩ | ⟨k,c,e,z⟩
    ·refine .inl ⟨k,?_⟩
     have : y≠x:=fun e=>hj (y1A hN e1 (e ▸ hi))
     simp [this,e]
    ·exact .inr ⟨k,c,e,z.sameBut hs (cne y c e)⟩
  ·obtain ⟨w',z⟩:=I.cell y c e
   exact ⟨w',z.sameBut hs (cne y c e)⟩
  ·obtain ⟨e,n,ne,nf,d⟩:=I.pin p hp
   exact ⟨(hs.2 p.1 ne).trans e,n,ne,nf,d⟩
 ·have hfn : X.fn x=true:=by
   rcases hf with z | z
   ·exact z
   ·rw [z] at hk; cases hk
  obtain ⟨c,hc⟩:=I.ok.has x (.inl hk)
  obtain ⟨w',z⟩:=I.cell x c hc
  refine wpAny_storeName_cell I.ok.kind hk hc z (fun h' hc' hs=>?_)
  obtain ⟨oc,hoc,hocd⟩:=id z
  refine h { s with heap:=h' } ⟨I.ok,I.os,I.bare,⟨fun b o e n hb hx=>?_,fun b o e n hb hx=>?_,I.base.free,fun b o e hx=>?_,I.base.tups,I.base.frzs,I.base.tbls⟩,⟨m,hn.sameBut hs (Ne.symm (cne x c hc)),fun j y v' e1 e2 e3=>?_⟩,fun y c' e=>?_,I.free,I.freeC,fun p hp=>?_,tracked ⟨oc,hoc,I.freeC x c hc⟩ hs,by simpa using I.len⟩ ⟨c,hs,.inr hc⟩
  ·exact (hs.2 b (aH (aP (Heap.lt_size e) (I.ok.cab x c hfn hc)))).trans (I.base.keep b o e n hb hx)
  ·obtain ⟨sl,e1⟩:=I.base.slot b o e n hb hx
   exact ⟨sl,(hs.2 b (aH (aP (Heap.lt_size e) (I.ok.cab x c hfn hc)))).trans e1⟩
  ·obtain ⟨o',e1⟩:=I.base.there b o e hx
   exact ⟨o',(hs.2 b (aH (aP (Heap.lt_size e) (I.ok.cab x c hfn hc)))).trans e1⟩
  ·by_cases hj : j=i
   ·subst hj
    rw [hi] at e1; cases e1
    rw [cK hiσ] at e2
    cases e2
    exact ⟨u,r,.inr ⟨.inl hk,c,hc,hc'⟩⟩
   ·rw [bg (Ne.symm hj)] at e2
    obtain ⟨u',r',q⟩:=hl j y v' e1 e2 e3
    refine ⟨u',r',?_⟩
    rcases q with q | ⟨k,c',e,z'⟩
    ·exact .inl q
    ·refine .inr ⟨k,c',e,z'.sameBut hs ?_⟩
     rintro rfl
     exact hj (y1A hN e1 (I.ok.inj _ _ _ e hc ▸ hi))
  ·by_cases hcc : c'=c
   ·subst hcc; exact ⟨_,hc'⟩
   ·obtain ⟨w2,z2⟩:=I.cell y c' e
    exact ⟨w2,z2.sameBut hs hcc⟩
  ·obtain ⟨e,n,ne,nf,d⟩:=I.pin p hp
   refine ⟨(hs.2 p.1 ?_).trans e,n,ne,nf,d⟩
   intro q
   rw [q,hoc] at e
   have q' : oc=p.2:=Option.some.inj e
   exact d w' (by rw [← q']; exact hocd)
theorem y1S {M : Model} {A : Around} {E : Value->Shared->Prop} {i : Nat} {x : Str} {v : V} {u : Value} {Q : Unit->Shared->Prop} (I : Inv X pins σ H s) (hN : X.N.Nodup) (hi : X.N[i]? = some x) (hx : Loc X.env.scope x) (r : RelV v u)
  (h : ∀ s',Inv X pins (σ.set i (some v)) H s'->Q () s') (hf : X.fn x=true∨X.env.scope.names.lookup x=some .local:=by first | exact .inl rfl | exact .inr rfl | assumption) : wpAny M A (storeName X.env x u) Q E s:=
 z9k I hN hi hx r (fun s' I' _=>h s' I') hf
theorem Inv.call' {s' : Shared} {ch : List Addr} (I : Inv X pins σ H s) (ho : s'.os=s.os) (u : Un (frs X.stack) ch H H' s.heap s'.heap) (hok : HOk X.prog X.w H' s'.heap) (hg : AllBare s'.gens)
  (hch : ∀ b∈ch,(b∈X.ex∨X.s₀.heap.objs.size≤b)∧b≠X.env.locals∧(∀ x c,X.env.cells.lookup x=some c->c≠b)∧∀ p∈X.pn ++ pins,p.1≠b) : Inv X pins σ H' s':=by
 obtain ⟨h',g',d',t',o'⟩:=s'
 have e : o'=s.os:=ho
 subst e
 exact I.call (g':=g') (t':=t') (d':=d') u hok hg hch
end
noncomputable abbrev XK:=Value->Option Addr->Hp->Prop
noncomputable abbrev St:=List (Option V)
noncomputable abbrev VK:=V->Hp->Prop
noncomputable abbrev TE:=St->Hp->VK->Prop
noncomputable abbrev TT:=St->Hp->(Bool->Hp->Prop)->Prop
noncomputable abbrev TA:=St->Hp->(List V->Hp->Prop)->Prop
structure Ends where
 nx : St->Hp->Prop
 rt : VK
 bk : St->Hp->Prop:=fun _ _=>False
 ct : St->Hp->Prop:=fun _ _=>False
noncomputable abbrev TS:=Ends->St->Hp->Prop
noncomputable def EP (X : Cx) (pins : List (Addr × Obj)) (σ : St) (Q : VK) (u : Value) (s' : Shared) : Prop:=∃ v H',Inv X pins σ H' s'∧RelV v u∧Q v H'
noncomputable def TP (X : Cx) (pins : List (Addr × Obj)) (σ : St) (Q : Bool->Hp->Prop) (b : Bool) (s' : Shared) : Prop:=∃ H',Inv X pins σ H' s'∧Q b H'
noncomputable def AP (X : Cx) (pins : List (Addr × Obj)) (σ : St) (Q : List V->Hp->Prop) (us : List Value) (s' : Shared) : Prop:=∃ vs H',Inv X pins σ H' s'∧Vals vs us∧Q vs H'
noncomputable def SP (X : Cx) (pins : List (Addr × Obj)) (D : Ends) (f : Flow) (s' : Shared) : Prop:=
 match f with
 | .next=>∃ σ' H',Inv X pins σ' H' s'∧D.nx σ' H'
 | .brk=>∃ σ' H',Inv X pins σ' H' s'∧D.bk σ' H'
 | .cont=>∃ σ' H',Inv X pins σ' H' s'∧D.ct σ' H'
 | .ret u=>∃ v σ' H',Inv X pins σ' H' s'∧RelV v u∧D.rt v H'
noncomputable def PE (X : Cx) (e : Expr) (t : TE) : Prop:=
 ∀ (pins : List (Addr × Obj)) (s : Shared) (σ : St) (H : Hp) (Q : VK),Inv X pins σ H s->t σ H Q->wpAny (model X.prog X.w) X.A (eval e X.env) (EP X pins σ Q) X.xe s
noncomputable def PT (X : Cx) (e : Expr) (t : TT) : Prop:=
 ∀ (pins : List (Addr × Obj)) (s : Shared) (σ : St) (H : Hp) (Q : Bool->Hp->Prop),Inv X pins σ H s->t σ H Q->wpAny (model X.prog X.w) X.A (isTrue e X.env (eval e X.env)) (TP X pins σ Q) X.xe s
noncomputable def PW (X : Cx) (e : Expr) (t : TT) : Prop:=
 ∀ (whole : Sem Value) (pins : List (Addr × Obj)) (s : Shared) (σ : St) (H : Hp) (Q : Bool->Hp->Prop),Inv X pins σ H s->t σ H Q->wpAny (model X.prog X.w) X.A (isTrue e X.env whole) (TP X pins σ Q) X.xe s
theorem PW.pt {X : Cx} {e : Expr} {t : TT} (h : PW X e t) : PT X e t:=h _
noncomputable def PA (X : Cx) (es : List Expr) (t : TA) : Prop:=
 ∀ (pos : Pos) (pins : List (Addr × Obj)) (s : Shared) (σ : St) (H : Hp) (Q : List V->Hp->Prop),Inv X pins σ H s->t σ H Q->wpAny (model X.prog X.w) X.A (spliced (backTo pos (starEach es X.env))) (AP X pins σ Q) X.xe s
noncomputable def PS (X : Cx) (st : Stmt) (t : TS) : Prop:=
 ∀ (pins : List (Addr × Obj)) (s : Shared) (σ : St) (H : Hp) (D : Ends),Inv X pins σ H s->t D σ H->wpAny (model X.prog X.w) X.A (exec st X.env) (SP X pins D) X.xe s
noncomputable def PSs (X : Cx) (st : List Stmt) (t : TS) : Prop:=
 ∀ (pins : List (Addr × Obj)) (s : Shared) (σ : St) (H : Hp) (D : Ends),Inv X pins σ H s->t D σ H->wpAny (model X.prog X.w) X.A (execs st X.env) (SP X pins D) X.xe s
theorem thn {α : Type} {t : Sem α} {Q Q' : α->Shared->Prop} {M : Model} {A : Around} {E : Value->Shared->Prop} {s : Shared} (h : wpAny M A t Q E s) (hQ : ∀ a s,Q a s->Q' a s) : wpAny M A t Q' E s:=wpAny_mono h hQ fun _ _ x=>x
end L2
namespace L2
open PySem PySem.Spec PyProof.Rows
section
variable {X : Cx}
theorem bin {a b : Expr} {ta tb : TE} (ha : PE X a ta) (hb : PE X b tb) {pins : List (Addr × Obj)} {s : Shared} {σ : St} {H : Hp} {R : V->V->Hp->Prop} (I : Inv X pins σ H s) (h : ta σ H fun x H1=>tb σ H1 fun y H2=>R x y H2)
  {α : Type} {Q : α->Shared->Prop} {f : Value->Value->Sem α}
  (hf : ∀ v u s2 x y H2,Inv X pins σ H2 s2->RelV x v->RelV y u->R x y H2->wpAny (model X.prog X.w) X.A (f v u) Q X.xe s2) :
  wpAny (model X.prog X.w) X.A (eval a X.env) (fun v s₁=>wpAny (model X.prog X.w) X.A (eval b X.env) (fun u s₂=>wpAny (model X.prog X.w) X.A (f v u) Q X.xe s₂) X.xe s₁) X.xe s:=by
 refine thn (ha pins s σ H _ I h) fun v s1 ⟨x,H1,I1,r1,q1⟩=>?_
 refine thn (hb pins s1 σ H1 _ I1 q1) fun u s2 ⟨y,H2,I2,r2,q2⟩=>?_
 exact hf v u s2 x y H2 I2 r1 r2 q2
noncomputable def z7x (i : Nat) : TE:=fun σ H Q=>∃ v,σ[i]? = some (some v)∧Q v H
noncomputable def tC (v : V) : TE:=fun _ H Q=>Q v H
theorem pe_var {i : Nat} {x : Str} {pos : Pos} (hN : X.N[i]? = some x) (hv : Vis X.env.scope x) (hd : (x == ("__debug__" : Str))=false:=by decide) (hcd : (x == ("__classdict__" : Str))=false:=by decide) : PE X (.Name x pos) (z7x i):=by
 intro pins s σ H Q I h
 obtain ⟨v,e,h⟩:=h
 obtain ⟨m,hn,hl⟩:=I.loc
 obtain ⟨u,r,l⟩:=hl i x v hN e hv
 have fin : EP X pins σ Q u s:=⟨v,H,I,r,h⟩
 rcases l with ⟨hk,hm⟩ | ⟨hk,c,hc,hcell⟩
 ·exact wpAny_Name (wpAny_loadName_local I.ok.kind hk hn hm fin) hd
 ·rcases hk with hk | hk
  ·exact wpAny_Name (wpAny_loadName_cell I.ok.kind hk hc hcell fin) hd
  ·exact wpAny_Name (wpAny_loadName_free I.ok.kind hk hc hcell fin hcd) hd
theorem pe_int {i j pos} : PE X (.Constant (.int i) j pos) (tC (.int i)):=fun _ _ _ H _ I h=>wpAny_Constant_int ⟨.int i,H,I.tok _,⟨_,rfl⟩,h⟩
theorem pe_bl {b j pos} : PE X (.Constant (.bool b) j pos) (tC (.bl b)):=fun _ _ _ H _ I h=>Constant_bool ⟨.bl b,H,I,rfl,h⟩
theorem pe_str {x j pos} : PE X (.Constant (.str x) j pos) (tC (.str x)):=fun _ _ _ H _ I h=>Calls.Constant_str ⟨.str x,H,I.tok _,⟨_,rfl⟩,h⟩
noncomputable def Gl (X : Cx) (x : Str) : Prop:=X.env.kindOf x=some .globalImplicit
theorem z9Y {E : Value->Shared->Prop} {pins : List (Addr × Obj)} {s : Shared} {σ : St} {H : Hp} {x : Str} {u : Value} {pos : Pos} {Q : Value->Shared->Prop} (I : Inv X pins σ H s) (hg : Gl X x) (hm : X.mg x=some u) (h : Q u s)
  (hd : (x == ("__debug__" : Str))=false:=by decide) : wpAny (model X.prog X.w) X.A (eval (.Name x pos) X.env) Q E s:=
 Calls.Name_function_global I.ok.kind hg (Calls.loadGlobal_global (by rw [I.ok.glob]; exact I.mod.glob.keeps I.bk) hm h) hd
theorem z4H {E : Value->Shared->Prop} {pins : List (Addr × Obj)} {s : Shared} {σ : St} {H : Hp} {x : Str} {u : Value} {pos : Pos} {Q : Value->Shared->Prop} (I : Inv X pins σ H s) (hg : Gl X x) (hm : X.mg x=none) (hv : bootBuiltins x=some u) (h : Q u s)
  (hn : x ≠ "__name__" := by decide) (hd : (x == ("__debug__" : Str))=false:=by decide) : wpAny (model X.prog X.w) X.A (eval (.Name x pos) X.env) Q E s:=by
 obtain ⟨mb,h1,h2⟩:=I.mod.blt
 exact Calls.Name_function_global I.ok.kind hg (Calls.loadGlobal_builtin (by rw [I.ok.glob]; exact I.mod.glob.keeps I.bk) hm (by rw [I.ok.blt]; exact h1.keeps I.bk) ((h2 x hn).trans hv) h) hd
theorem pe_bltn {x : Str} {v : V} {u : Value} {pos : Pos} (hg : Gl X x) (hm : X.mg x=none) (hv : bootBuiltins x=some u) (r : RelV v u) (hn : x ≠ "__name__" := by decide) (hd : (x == ("__debug__" : Str))=false:=by decide) : PE X (.Name x pos) (tC v):=
 fun _ _ _ H _ I h=>z4H I hg hm hv ⟨v,H,I,r,h⟩ hn hd
variable {a b : Expr} {ta tb : TE} {pos : Pos}
noncomputable def PC (X : Cx) (op : CmpOp) (a b : Expr) (t : TE) : Prop:=
 ∀ (pins : List (Addr × Obj)) (s : Shared) (σ : St) (H : Hp) (Q : VK),Inv X pins σ H s->t σ H Q →
  wpAny (model X.prog X.w) X.A (eval a X.env) (fun v s₁=>wpAny (model X.prog X.w) X.A (eval b X.env) (fun u s₂=>wpAny (model X.prog X.w) X.A (compareOp op v u) (EP X pins σ Q) X.xe s₂) X.xe s₁) X.xe s
theorem y7h (b : Expr) {op : CmpOp} (h : op≠.In) (h2 : op≠.NotIn) : behindInMarks op b=false:=by
 have e1 : (op == CmpOp.In)=false:=by cases op <;> first | rfl | exact absurd rfl h
 have e2 : (op == CmpOp.NotIn)=false:=by cases op <;> first | rfl | exact absurd rfl h2
 cases b <;> simp [behindInMarks,e1,e2]
noncomputable def tB (t : TE) : TT:=fun σ H Q=>t σ H fun x H1=>∃ c,x = .bl c∧Q c H1
theorem y8y {op : CmpOp} {t : TE} (h : PC X op a b t) (h1 : behindInMarks op b=false:=by first | exact y7h _ (by decide) (by decide) | rfl) : PT X (.Compare a [op] [b] pos) (tB t):=by
 intro pins s σ H Q I hw
 refine wpAny_isTrue_Compare1 (thn (h pins s σ H _ I hw) fun v s1 h1=>thn h1 fun u s2 h2=>thn h2 fun c s3 ⟨x,H1,I1,r1,q1⟩=>?_) h1
 obtain ⟨d,rfl,q⟩:=q1
 cases r1
 exact wpAny_truthy_bool ⟨H1,I1,q⟩
variable {tA tB' : TT} {rest : List Expr}
noncomputable def tAnd (t u : TT) : TT:=fun σ H Q=>t σ H fun c H1=>if c=true then u σ H1 Q else Q false H1
noncomputable def tOr (t u : TT) : TT:=fun σ H Q=>t σ H fun c H1=>if c=true then Q true H1 else u σ H1 Q
noncomputable def tNot (t : TT) : TT:=fun σ H Q=>t σ H fun c H1=>Q (!c) H1
theorem pw_and1 (ha : PT X a tA) : PW X (.BoolOp .And [a] pos) tA:=by
 intro wh pins s σ H Q I h
 refine isTrue_and (thn (ha pins s σ H Q I h) fun c s1 e=>?_)
 cases c with
 | true=>exact isTrue_and_nil e
 | false=>exact e
theorem pw_or1 (ha : PT X a tA) : PW X (.BoolOp .Or [a] pos) tA:=by
 intro wh pins s σ H Q I h
 refine isTrue_or (thn (ha pins s σ H Q I h) fun c s1 e=>?_)
 cases c with
 | false=>exact isTrue_or_nil e
 | true=>exact e
theorem pw_and (ha : PT X a tA) (hb : PW X (.BoolOp .And (b :: rest) pos) tB') : PW X (.BoolOp .And (a :: b :: rest) pos) (tAnd tA tB'):=by
 intro wh pins s σ H Q I h
 refine isTrue_and (thn (ha pins s σ H _ I h) fun c s1 ⟨H1,I1,q1⟩=>?_)
 cases c with
 | true=>exact hb wh pins s1 σ H1 Q I1 q1
 | false=>exact ⟨H1,I1,q1⟩
theorem pw_or (ha : PT X a tA) (hb : PW X (.BoolOp .Or (b :: rest) pos) tB') : PW X (.BoolOp .Or (a :: b :: rest) pos) (tOr tA tB'):=by
 intro wh pins s σ H Q I h
 refine isTrue_or (thn (ha pins s σ H _ I h) fun c s1 ⟨H1,I1,q1⟩=>?_)
 cases c with
 | true=>exact ⟨H1,I1,q1⟩
 | false=>exact hb wh pins s1 σ H1 Q I1 q1
theorem pt_not (ha : PT X a tA) : PT X (.UnaryOp .Not a pos) (tNot tA):=by
 intro pins s σ H Q I h
 exact isTrue_not (ha pins s σ H (fun c H1=>Q (!c) H1) I h)
noncomputable def tAndV (ta tb : TE) : TE:=fun σ H Q=>ta σ H fun x H1=>∃ c,x = .bl c∧if c=true then tb σ H1 Q else Q (.bl false) H1
noncomputable def tOrV (ta tb : TE) : TE:=fun σ H Q=>ta σ H fun x H1=>∃ c,x = .bl c∧if c=true then Q (.bl true) H1 else tb σ H1 Q
noncomputable def tNotV (ta : TE) : TE:=fun σ H Q=>ta σ H fun x H1=>∃ c,x = .bl c∧Q (.bl (!c)) H1
theorem pe_one {op} {t : TE} (h : PE X a t) : PE X (.BoolOp op [a] pos) t:=fun pins s σ H Q I hw=>BoolOp_one (h pins s σ H Q I hw)
theorem pe_and (ha : PE X a ta) (hb : PE X (.BoolOp .And (b :: rest) pos) tb) : PE X (.BoolOp .And (a :: b :: rest) pos) (tAndV ta tb):=by
 intro pins s σ H Q I h
 refine BoolOp_and (thn (ha pins s σ H _ I h) fun v s1 ⟨x,H1,I1,r1,q1⟩=>?_)
 obtain ⟨c,rfl,q1⟩:=q1
 cases r1
 refine wpAny_truthy_bool ?_
 cases c with
 | true=>exact hb pins s1 σ H1 Q I1 q1
 | false=>exact ⟨.bl false,H1,I1,rfl,q1⟩
theorem pe_or (ha : PE X a ta) (hb : PE X (.BoolOp .Or (b :: rest) pos) tb) : PE X (.BoolOp .Or (a :: b :: rest) pos) (tOrV ta tb):=by
 intro pins s σ H Q I h
 refine BoolOp_or (thn (ha pins s σ H _ I h) fun v s1 ⟨x,H1,I1,r1,q1⟩=>?_)
 obtain ⟨c,rfl,q1⟩:=q1
 cases r1
 refine wpAny_truthy_bool ?_
 cases c with
 | false=>exact hb pins s1 σ H1 Q I1 q1
 | true=>exact ⟨.bl true,H1,I1,rfl,q1⟩
theorem pe_not (ha : PE X a ta) : PE X (.UnaryOp .Not a pos) (tNotV ta):=by
 intro pins s σ H Q I h
 refine UnaryOp_ (thn (ha pins s σ H _ I h) fun v s1 ⟨x,H1,I1,r1,q1⟩=>?_)
 obtain ⟨c,rfl,q1⟩:=q1
 cases r1
 exact not_of (wpAny_truthy_bool ⟨.bl (!c),H1,I1,rfl,q1⟩)
end
end L2
namespace L2
open PySem PySem.Spec PyProof.Rows
noncomputable def SqL (K : aa) (H : Hp) (a : Addr) (xs : List V) : Prop:=
 Rd H a (.lst xs) ∨
  ∃ (o : Obj) (its : Array Value) (n : Nat),K.lookup a=some o∧o.cls = .type "list" ∧ o.dict=none∧o.data = .seq its n∧its.size≤sizeLine∧Vals xs its.toList
noncomputable def SqT (K : aa) (H : Hp) (a : Addr) (xs : List V) : Prop:=
 Rd H a (.tup xs) ∨
  ∃ (o : Obj) (its : Array Value) (n : Nat),K.lookup a=some o∧(o.cls = .type "tuple" ∧ o.dict=none)∧o.data = .seq its n∧its.size≤sizeLine∧Vals xs its.toList
noncomputable def absV : Value->Option V
 | .none=>some .non
 | .bool b=>some (.bl b)
 | .int i _=>some (.int i)
 | .str x _=>some (.str x)
 | .bytes b _=>some (.byt b)
 | .float b _=>some (.flt b)
 | .ref a=>some (.ref a)
 | .type n=>some (.ty n)
 | _=>none
theorem RelV.abs {x : V} {u : Value} (r : RelV x u) : absV u=some x:=by
 cases x with
 | non=>cases r; rfl
 | bl _=>cases r; rfl
 | int _=>obtain ⟨t,rfl⟩:=r; rfl
 | str _=>obtain ⟨t,rfl⟩:=r; rfl
 | byt _=>obtain ⟨t,rfl⟩:=r; rfl
 | flt _=>obtain ⟨t,rfl⟩:=r; rfl
 | ref _=>cases r; rfl
 | ty _=>cases r; rfl
theorem RelV.inj {x y : V} {u : Value} (r : RelV x u) (q : RelV y u) : x=y:=Option.some.inj (r.abs.symm.trans q.abs)
theorem Vals.inj : ∀ {xs ys : List V} {us : List Value},Vals xs us->Vals ys us->xs=ys
 | _,_,_,.nil,.nil=>rfl
 | _,_,_,.cons r t,.cons r' t'=>by rw [r.inj r',Vals.inj t t']
section
variable {X : Cx} {pins : List (Addr × Obj)} {σ : St} {H : Hp} {s : Shared} {a : Addr} {xs ys : List V}
theorem SqL.of {K : aa} (h : H a=some (.lst xs)) : SqL K H a xs:=.inl (.inl h)
theorem SqT.of {K : aa} (h : H a=some (.tup xs)) : SqT K H a xs:=.inl (.inl h)
theorem Inv.list (I : Inv X pins σ H s) (h : SqL X.K H a xs) : ∃ its : List Value,Vals xs its∧PlainL s.heap a its.toArray∧xs.length≤sizeLine:=by
 rcases h with h | ⟨o,its,n,hk,hc,hd,hs,hz,r⟩
 ·obtain ⟨z,its,n,r,e⟩:=h.ok I.hok
  exact ⟨its,r,⟨_,n,e,rfl,rfl,rfl⟩,z⟩
 ·refine ⟨its.toList,r,⟨o,n,I.kIn a o hk,hc,hd,by simpa using hs⟩,?_⟩
  have e:=r.length
  simp only [bQ] at e
  omega
theorem Inv.tuple (I : Inv X pins σ H s) (h : SqT X.K H a xs) : ∃ its : List Value,Vals xs its∧IsTup s.heap a its.toArray∧xs.length≤sizeLine:=by
 rcases h with h | ⟨o,its,n,hk,hc,hs,hz,r⟩
 ·obtain ⟨z,its,r,p⟩:=h.ok I.hok
  exact ⟨its,r,p.is,z⟩
 ·refine ⟨its.toList,r,⟨o,I.kIn a o hk,hc.1,n,by simpa using hs⟩,?_⟩
  have e:=r.length
  simp only [bQ] at e
  omega
theorem Inv.list_inj (I : Inv X pins σ H s) (h : SqL X.K H a xs) (h' : SqL X.K H a ys) : xs=ys:=by
 obtain ⟨its,r,⟨o,n,e,_,_,d⟩,_⟩:=I.list h
 obtain ⟨its',r',⟨o',n',e',_,_,d'⟩,_⟩:=I.list h'
 rw [e] at e'; cases e'
 rw [d] at d'
 injection d' with d1 _
 have : its=its':=by simpa using congrArg Array.toList d1
 subst this
 exact r.inj r'
theorem Inv.tuple_inj (I : Inv X pins σ H s) (h : SqT X.K H a xs) (h' : SqT X.K H a ys) : xs=ys:=by
 obtain ⟨its,r,⟨o,e,_,n,d⟩,_⟩:=I.tuple h
 obtain ⟨its',r',⟨o',e',_,n',d'⟩,_⟩:=I.tuple h'
 rw [e] at e'; cases e'
 rw [d] at d'
 injection d' with d1 _
 have : its=its':=by simpa using congrArg Array.toList d1
 subst this
 exact r.inj r'
end
noncomputable abbrev Cx.wish (X : Cx) (E : Value->Shared->Prop) : Cx:={ X with xe:=E }
noncomputable abbrev Cx.nox (X : Cx) : Cx:=X.wish fun _ _=>False
theorem Cx.Ok.wish {X : Cx} (ok : X.Ok) (E : Value->Shared->Prop) : (X.wish E).Ok:=
 ⟨ok.mod,ok.kind,ok.glob,ok.blt,ok.above,ok.inj,ok.has,ok.cab,ok.hd,ok.frames,ok.stk,ok.exf,ok.bs,ok.bsz,ok.noex,ok.exfs,ok.funs,ok.frf⟩
theorem Cx.Ok.unwish {X : Cx} {E : Value->Shared->Prop} (ok : (X.wish E).Ok) : X.Ok:=
 ⟨ok.mod,ok.kind,ok.glob,ok.blt,ok.above,ok.inj,ok.has,ok.cab,ok.hd,ok.frames,ok.stk,ok.exf,ok.bs,ok.bsz,ok.noex,ok.exfs,ok.funs,ok.frf⟩
section
variable {X : Cx} {pins : List (Addr × Obj)} {σ : St} {H : Hp} {s : Shared} {E : Value->Shared->Prop}
theorem Inv.wish (I : Inv X pins σ H s) (E : Value->Shared->Prop) : Inv (X.wish E) pins σ H s:=⟨I.ok.wish E,I.os,I.bare,I.base,I.loc,I.cell,I.free,I.freeC,I.pin,I.hok,I.len⟩
theorem Inv.unwish (I : Inv (X.wish E) pins σ H s) : Inv X pins σ H s:=⟨I.ok.unwish,I.os,I.bare,I.base,I.loc,I.cell,I.free,I.freeC,I.pin,I.hok,I.len⟩
theorem SP.unwish {D : Ends} {f : Flow} {s' : Shared} (h : SP (X.wish E) pins D f s') : SP X pins D f s':=by
 cases f with
 | next=>obtain ⟨σ',H',I,q⟩:=h; exact ⟨σ',H',I.unwish,q⟩
 | brk=>obtain ⟨σ',H',I,q⟩:=h; exact ⟨σ',H',I.unwish,q⟩
 | cont=>obtain ⟨σ',H',I,q⟩:=h; exact ⟨σ',H',I.unwish,q⟩
 | ret u=>obtain ⟨v,σ',H',I,r,q⟩:=h; exact ⟨v,σ',H',I.unwish,r,q⟩
theorem PSs.nox {st : List Stmt} {t : TS} (h : PSs X.nox st t) : PSs X st t:=fun pins s σ H D I hw=>
 wpAny_mono (h pins s σ H D (I.wish _) hw) (fun _ _ q=>q.unwish) fun _ _ z=>False.elim z
end
section
variable {X : Cx} {st : Stmt} {rest : List Stmt} {t u : TS} {e : Expr} {te : TE} {pos : Pos}
noncomputable def tNext : TS:=fun D σ H=>D.nx σ H
noncomputable def tSeq (t u : TS) : TS:=fun D σ H=>t { D with nx:=u D } σ H
theorem pss_nil : PSs X [] tNext:=fun _ _ σ H _ I h=>wpAny_execs_nil ⟨σ,H,I,h⟩
theorem y7P (h1 : PS X st t) (h2 : PSs X rest u) : PSs X (st :: rest) (tSeq t u):=by
 intro pins s σ H D I h
 refine wpAny_execs_cons (thn (h1 pins s σ H { D with nx:=u D } I h) fun f s1 q=>?_)
 cases f with
 | next=>
  obtain ⟨σ',H',I',q⟩:=q
  exact h2 pins s1 σ' H' D I' q
 | ret v=>exact q
 | brk=>exact q
 | cont=>exact q
theorem pss_one (h1 : PS X st t) : PSs X [st] t:=by
 intro pins s σ H D I h
 refine wpAny_execs_cons (thn (h1 pins s σ H D I h) fun f s1 q=>?_)
 cases f with
 | next=>exact wpAny_execs_nil q
 | ret v=>exact q
 | brk=>exact q
 | cont=>exact q
theorem Inv.quiet {pins : List (Addr × Obj)} {σ : St} {H : Hp} {s : Shared} (I : Inv X pins σ H s) : interactive X.env=false:=by simp [interactive,I.ok.kind]
noncomputable def tDrop (te : TE) : TS:=fun D σ H=>te σ H fun _ H1=>D.nx σ H1
theorem z5c (he : PE X e te) (hs : swapsWith e none pos.line X.env=pure false:=by rfl) : PS X (.Expr e pos) (tDrop te):=by
 intro pins s σ H D I h
 exact wpAny_Expr_any (thn (he pins s σ H _ I h) fun v s1 ⟨x,H1,I1,r1,q1⟩=>⟨σ,H1,I1,q1⟩) I.quiet hs
noncomputable def tRet (te : TE) : TS:=fun D σ H=>te σ H D.rt
theorem z7c (he : PE X e te) : PS X (.Return (some e) pos) (tRet te):=by
 intro pins s σ H D I h
 exact wpAny_Return_some (thn (he pins s σ H _ I h) fun v s1 ⟨x,H1,I1,r1,q1⟩=>⟨x,σ,H1,I1,r1,q1⟩)
noncomputable def tIfS (c : TT) (t u : TS) : TS:=fun D σ H=>c σ H fun b H1=>if b=true then t D σ H1 else u D σ H1
theorem ps_if {c : Expr} {a b : List Stmt} {tc : TT} (hc : PT X c tc) (ha : PSs X a t) (hb : PSs X b u) : PS X (.If c a b pos) (tIfS tc t u):=by
 intro pins s σ H D I h
 refine wpAny_If (thn (hc pins s σ H _ I h) fun d s1 ⟨H1,I1,q1⟩=>?_)
 cases d with
 | true=>exact ha pins s1 σ H1 D I1 q1
 | false=>exact hb pins s1 σ H1 D I1 q1
end
noncomputable abbrev TG:=V->St->Hp->(St->Hp->Prop)->Prop
noncomputable abbrev TGs:=List V->St->Hp->(St->Hp->Prop)->Prop
noncomputable def PG (X : Cx) (target : Expr) (t : TG) : Prop:=
 ∀ (pins : List (Addr × Obj)) (s : Shared) (σ : St) (H : Hp) (v : V) (u : Value) (Q : St->Hp->Prop),Inv X pins σ H s->RelV v u->t v σ H Q →
  wpAny (model X.prog X.w) X.A (assign target X.env u) (fun _ s'=>∃ σ' H',Inv X pins σ' H' s'∧Q σ' H') X.xe s
noncomputable def PGs (X : Cx) (ts : List Expr) (t : TGs) : Prop:=
 ∀ (pins : List (Addr × Obj)) (s : Shared) (σ : St) (H : Hp) (vs : List V) (us : List Value) (Q : St->Hp->Prop),Inv X pins σ H s->Vals vs us->t vs σ H Q →
  wpAny (model X.prog X.w) X.A (assignInOrder ((assignEach ts X.env).map (·.2)) us) (fun _ s'=>∃ σ' H',Inv X pins σ' H' s'∧Q σ' H') X.xe s
noncomputable abbrev TSet:=V->V->V->Hp->(Hp->Prop)->Prop
noncomputable def PSet (X : Cx) (t : TSet) : Prop:=
 ∀ (pins : List (Addr × Obj)) (s : Shared) (σ : St) (H : Hp) (o i v : V) (ov iv u : Value) (Q : Hp->Prop),Inv X pins σ H s->RelV o ov->RelV i iv->RelV v u->t o i v H Q →
  wpAny (model X.prog X.w) X.A (setItem ov iv u) (fun _ s'=>∃ H',Inv X pins σ H' s'∧Q H') X.xe s
section
variable {X : Cx} {pos : Pos}
noncomputable def z2A (i : Nat) : TG:=fun v σ H Q=>Q (σ.set i (some v)) H
theorem z0k {i : Nat} {x : Str} (hN : X.N.Nodup) (hi : X.N[i]? = some x) (hx : Loc X.env.scope x) (hf : X.fn x=true∨X.env.scope.names.lookup x=some .local:=by first | exact .inl rfl | exact .inr rfl | assumption) : PG X (.Name x pos) (z2A i):=by
 intro pins s σ H v u Q I r h
 exact wpAny_assign_Name (y1S I hN hi hx r (fun s' I'=>⟨_,H,I',h⟩) hf)
noncomputable def gNil : TGs:=fun vs σ H Q=>vs=[]∧Q σ H
noncomputable def y4c (t : TG) (u : TGs) : TGs:=fun vs σ H Q=>∃ v r,vs=v :: r∧t v σ H fun σ' H'=>u r σ' H' Q
theorem y4W : PGs X [] gNil:=by
 intro pins s σ H vs us Q I r h
 obtain ⟨e,h⟩:=h
 subst e
 cases r
 exact assignInOrder_nil ⟨σ,H,I,h⟩
theorem z5E {e : Expr} {es : List Expr} {t : TG} {u : TGs} (h1 : PG X e t) (h2 : PGs X es u)
  (hs : (assignEach (e :: es) X.env).map (·.2)=assign e X.env :: (assignEach es X.env).map (·.2):=by rfl) : PGs X (e :: es) (y4c t u):=by
 intro pins s σ H vs us Q I r h
 obtain ⟨v,vr,e1,h⟩:=h
 subst e1
 cases r with
 | cons r rr=>
  rw [hs]
  refine assignInOrder_cons (thn (h1 pins s σ H _ _ _ I r h) fun _ s1 ⟨σ1,H1,I1,q1⟩=>?_)
  exact h2 pins s1 σ1 H1 _ _ Q I1 rr q1
noncomputable def gTup (K : aa) (n : Nat) (t : TGs) : TG:=fun v σ H Q=>∃ a xs,v = .ref a∧SqT K H a xs∧xs.length=n∧t xs σ H Q
theorem y8G {es : List Expr} {k : Nat} {t : TGs} {n : Nat} (hc : X.calm=true) (h : PGs X es t)
  (hn : (assignEach es X.env).length=n:=by rfl) (hst : (assignEach es X.env).findIdx? (·.1)=none:=by rfl) : PG X (.Tuple es k pos) (gTup X.K n t):=by
 intro pins s σ H v u Q I r hw
 obtain ⟨a,xs,e1,hq,hl,hw⟩:=hw
 subst e1
 cases r
 obtain ⟨its,rv,ht,hz⟩:=I.tuple hq
 refine assign_Tuple_tuple (I.ok.hd hc) ht (by simp [hn,← hl,rv.length]) hst fun h' hx=>?_
 have I1 : Inv X pins σ H { s with heap:=h' }:=I.kept (t':=s.toks) fun b o e=>hx b o (aH (Heap.lt_size e)) e
 exact h pins _ σ H xs _ Q I1 (by simpa using rv) hw
noncomputable def gSub (to ti : TE) (t : TSet) : TG:=fun v σ H Q=>to σ H fun o H1=>ti σ H1 fun i H2=>t o i v H2 fun H3=>Q σ H3
theorem y8p {o i : Expr} {to ti : TE} {t : TSet} (ho : PE X o to) (hi : PE X i ti) (hs : PSet X t)
  (ha : ∀ v,assign (.Subscript o i pos) X.env v=(do
   let ov ← holding [v] (eval o X.env)
   let iv ← holding [v,ov] (eval i X.env)
   standAt pos
   holding [v,ov,iv] (setItem ov iv v)
   release [v,ov,iv] []):=by intro _; rfl) : PG X (.Subscript o i pos) (gSub to ti t):=by
 intro pins s σ H v u Q I r h
 rw [ha]
 refine wpAny_bind (wpAny_holding (thn (ho pins s σ H _ I h) fun ov s1 ⟨x,H1,I1,r1,q1⟩=>?_))
 refine wpAny_bind (wpAny_holding (thn (hi pins s1 σ H1 _ I1 q1) fun iv s2 ⟨y,H2,I2,r2,q2⟩=>?_))
 refine wpAny_bind (wpAny_standAt (wpAny_bind (wpAny_holding (thn (hs pins s2 σ H2 x y v ov iv u _ I2 r1 r2 r q2) fun _ s3 ⟨H3,I3,q3⟩=>?_))))
 exact wpAny_release ⟨σ,H3,I3,q3⟩
noncomputable def tAsg (te : TE) (g : TG) : TS:=fun D σ H=>te σ H fun x H1=>g x σ H1 D.nx
theorem y8m {tg e : Expr} {te : TE} {g : TG} (he : PE X e te) (hg : PG X tg g) (hs : swapsWithSole [tg] e pos.line X.env=pure false:=by rfl) (hw : swappedStores [tg] e X.env=pure none:=by rfl)
  (h1 : (assignEach [tg] X.env).map (·.2)=[assign tg X.env]:=by rfl) : PS X (.Assign [tg] e pos) (tAsg te g):=by
 intro pins s σ H D I h
 refine wpAny_Assign_stores (thn (he pins s σ H _ I h) fun v s1 ⟨x,H1,I1,r1,q1⟩=>?_) hs hw
 rw [h1]
 exact thn (hg pins s1 σ H1 x v _ I1 r1 q1) fun _ s2 q=>q
theorem ps_set {i : Nat} {x : Str} {e : Expr} {te : TE} {pos' : Pos} (hN : X.N.Nodup) (hi : X.N[i]? = some x) (hx : Loc X.env.scope x) (he : PE X e te) (hs : swapsWith e (some (.Name x pos')) pos.line X.env=pure false:=by rfl) (hf : X.fn x=true∨X.env.scope.names.lookup x=some .local:=by first | exact .inl rfl | exact .inr rfl | assumption) :
  PS X (.Assign [.Name x pos'] e pos) (tAsg te (z2A i)):=by
 intro pins s σ H D I h
 refine wpAny_Assign_Name (thn (he pins s σ H _ I h) fun v s1 ⟨y,H1,I1,r1,q1⟩=>?_) hs
 exact y1S I1 hN hi hx r1 (fun s2 I2=>⟨_,H1,I2,q1⟩) hf
end
section
variable {X : Cx} {pos : Pos}
noncomputable def tWhile (c : TT) (tb : TS) : TS:=fun D σ H=>∃ W : Nat->St->Hp->Prop,(∃ m,W m σ H)∧∀ m σ H,W m σ H →
 c σ H fun b H1=>if b=true then ∃ N : St->Hp->Prop,(∀ σ' H',N σ' H'->∃ m',m' < m∧W m' σ' H')∧tb { D with nx:=N,ct:=N,bk:=D.nx } σ H1 else D.nx σ H1
theorem y7D {c : Expr} {body : List Stmt} {tc : TT} {tb : TS} (hp : PassesOwn (model X.prog X.w) X.A X.env X.xe) (hc : PT X c tc) (hb : PSs X body tb) : PS X (.While c body [] pos) (tWhile tc tb):=by
 intro pins s σ H D I h
 obtain ⟨W,⟨m0,w0⟩,turn⟩:=h
 refine wpAny_While (codeAny_whileLoop (fun n s'=>∃ σ' H',Inv X pins σ' H' s'∧W n σ' H') ?_ m0 ⟨σ,H,I,w0⟩)
 rintro n s1 ⟨σ1,H1,I1,w1⟩
 refine wpAny_passesOwn hp (thn (hc pins s1 σ1 H1 _ I1 (turn n σ1 H1 w1)) fun b s2 ⟨H2,I2,q2⟩=>?_)
 cases b with
 | true=>
  obtain ⟨N,hN,q2⟩:=q2
  rw [if_pos rfl]
  refine wpAny_passesOwn hp (thn (hb pins s2 σ1 H2 _ I2 q2) fun f s3 q3=>?_)
  cases f with
  | next=>
   obtain ⟨σ3,H3,I3,n3⟩:=q3
   obtain ⟨m',hm,w3⟩:=hN σ3 H3 n3
   exact ⟨m',hm,σ3,H3,I3,w3⟩
  | cont=>
   obtain ⟨σ3,H3,I3,n3⟩:=q3
   obtain ⟨m',hm,w3⟩:=hN σ3 H3 n3
   exact ⟨m',hm,σ3,H3,I3,w3⟩
  | brk=>exact q3
  | ret v=>exact q3
 | false=>
  rw [if_neg ao]
  exact wpAny_execs_nil ⟨σ1,H2,I2,q2⟩
end
structure It where
 go : Nat->Hp->Prop
 yld : Nat->Hp->V->Hp->Prop
 stop : Nat->Hp->Prop
noncomputable def y0v (X : Cx) (pins : List (Addr × Obj)) (H : Hp) (b : Addr) : Prop:=
 H b=none∧b≠X.env.locals∧b ∉ X.fs∧(b∈X.ex∨X.s₀.heap.objs.size≤b)∧(∀ x c,X.env.cells.lookup x=some c->c≠b)∧∀ p∈X.pn ++ pins,p.1≠b
theorem Inv.fpOk {X : Cx} {pins : List (Addr × Obj)} {σ : St} {H H' : Hp} {s : Shared} {b : Addr} (I : Inv X pins σ H s) (hb : s.heap.objs.size≤b) (hn : H' b=none) : y0v X pins H' b:=by
 refine ⟨hn,cz (aP I.lt hb),I.nofs hb,.inr (aQ I.sz hb),fun x c e z=>?_,fun p hp z=>?_⟩
 ·obtain ⟨v,q⟩:=I.cell x c e
  exact absurd (aP q.lt (by rw [z]; exact hb)) (bC _)
 ·exact absurd (aP (Heap.lt_size (I.pin p hp).1) (by rw [z]; exact hb)) (bC _)
structure Turn (P : Program) (w : World) (K : aa) (tg : Expr) (J : It) (fp : List Addr) (it : Addr) (tn : Nat->Heap->Prop) : Prop where
 mem : it∈fp
 obj : ∀ i h,tn i h->∀ b∈fp,∃ o,h.get? b=some o∧∀ v,o.data≠.cell v
 keep : ∀ i h h',tn i h->(∀ b∈fp,∀ o,h.get? b=some o->h'.get? b=some o)->tn i h'
 item : ∀ (X : Cx),X.prog=P->X.w=w->X.K=K->X.calm=true->∀ (i : Nat) (pins : List (Addr × Obj)) (s : Shared) (σ : St) (H : Hp) (E : Value->Shared->Prop),Inv X pins σ H s->(∀ b∈fp,y0v X pins H b)->tn i s.heap->J.go i H →
  wpAny (model P w) X.A (pyNext (.ref it)) (fun r s1=>∃ u,r=some u ∧
   wpAny (model P w) X.A (letOwnedTupleGo tg (.ref it) u) (fun _ s2=>∃ x H',Inv X pins σ H' s2∧RelV x u∧J.yld i H x H'∧tn (i + 1) s2.heap∧∀ b∈fp,H' b=none) E s1) E s
 done : ∀ (X : Cx),X.prog=P->X.w=w->X.K=K->X.calm=true->∀ (i : Nat) (pins : List (Addr × Obj)) (s : Shared) (σ : St) (H : Hp) (E : Value->Shared->Prop),Inv X pins σ H s->(∀ b∈fp,y0v X pins H b)->tn i s.heap->J.stop i H →
  wpAny (model P w) X.A (pyNext (.ref it)) (fun r s1=>r=none∧Inv X pins σ H s1) E s
 self : ∀ (A : Around) (i : Nat) (s : Shared) (Q : Value->Shared->Prop) (E : Value->Shared->Prop),tn i s.heap->Q (.ref it) s->wpAny (model P w) A (pyIter (.ref it)) Q E s
noncomputable abbrev TI:=St->Hp->(It->Hp->Prop)->Prop
noncomputable def PIE (X : Cx) (pins : List (Addr × Obj)) (σ : St) (tg : Expr) (R : It->Hp->Prop) (itv : Value) (s2 : Shared) : Prop:=
 ∃ (it : Addr) (fp : List Addr) (tn : Nat->Heap->Prop) (J : It) (H' : Hp),itv = .ref it∧Inv X pins σ H' s2∧Turn X.prog X.w X.K tg J fp it tn∧tn 0 s2.heap∧(∀ b∈fp,y0v X pins H' b)∧R J H'
noncomputable def PI (X : Cx) (tg iter : Expr) (wi : TI) : Prop:=
 ∀ (pins : List (Addr × Obj)) (s : Shared) (σ : St) (H : Hp) (R : It->Hp->Prop),Inv X pins σ H s->wi σ H R →
  wpAny (model X.prog X.w) X.A (eval iter X.env) (fun v s1=>wpAny (model X.prog X.w) X.A (pyIter v) (PIE X pins σ tg R) X.xe s1) X.xe s
theorem y6P {M : Model} {A : Around} {E : Value->Shared->Prop} {s : Shared} {tg : Expr} {it : Addr} {u : Value} {o : Obj} {n : String} {vs : Array Value} {Q : Unit->Shared->Prop} (ho : s.heap.get? it=some o) (hc : o.cls = .type n) (hd : o.data = .fields vs)
  (hn : ["enumerate", "zip", "dict_itemiterator", "dict_reverseitemiterator", "odict_iterator", "itertools.zip_longest", "itertools.pairwise"].contains n=false) (hQ : Q () s) : wpAny M A (letOwnedTupleGo tg (.ref it) u) Q E s:=by
 unfold letOwnedTupleGo
 cases tg <;> first
  | exact wpAny_pure hQ
  | (cases u <;> first
    | exact wpAny_pure hQ
    | (refine wpAny_bind (wpAny_load ho ?_)
       rw [hc,hd]
       show wpAny M A (if (["enumerate", "zip", "dict_itemiterator", "dict_reverseitemiterator", "odict_iterator", "itertools.zip_longest", "itertools.pairwise"].contains n && vs[0]? == some (rawInt _))=true then _ else _) Q E s
       rw [if_neg (by intro h; rw [hn,dD] at h; cases h)]
       exact wpAny_pure hQ))
noncomputable def Itl (K : aa) (a : Addr) : It:=
 ⟨fun i H=>∃ xs x,SqL K H a xs∧xs[i]? = some x,fun i H x H'=>H'=H∧∀ xs,SqL K H a xs->xs[i]? = some x,fun i H=>∃ xs,SqL K H a xs∧xs.length≤i⟩
noncomputable def Itt (K : aa) (a : Addr) : It:=
 ⟨fun i H=>∃ xs x,SqT K H a xs∧xs[i]? = some x,fun i H x H'=>H'=H∧∀ xs,SqT K H a xs->xs[i]? = some x,fun i H=>∃ xs,SqT K H a xs∧xs.length≤i⟩
noncomputable def Itr (lo : Int) (n : Nat) : It:=⟨fun i _=>i < n,fun i H x H'=>H'=H∧x = .int (lo + i),fun i _=>n≤i⟩
theorem y3F {P : Program} {w : World} {K : aa} {tg : Expr} (a it : Addr) : Turn P w K tg (Itl K a) [it] it (fun i h=>h.IsListIter it a i) where
 mem:=by simp
 obj:=fun i h st b hb=>by
  have e : b=it:=by simpa using hb
  subst e
  obtain ⟨o,e,c,d⟩:=st
  exact ⟨o,e,fun v z=>by rw [d] at z; cases z⟩
 keep:=fun i h h' st k=>st.at fun o e=>k it (by simp) o e
 item:=by
  intro X hP hw hK hc i pins s σ H E I hf st hg
  subst hP hw hK
  obtain ⟨xs,x,hq,hx⟩:=hg
  obtain ⟨its,rv,p,hz⟩:=I.list hq
  obtain ⟨u,hu,ru⟩:=rv.get hx
  obtain ⟨f0,f1,f2,f3,f4,f5⟩:=hf it (by simp)
  refine wpAny_pyNext_list_item st p.isList (x:=u) (by simpa using hu) fun h' st' sb=>?_
  have I1 : Inv X pins σ H { s with heap:=h' }:=I.turned (t':=s.toks) (fun b o hb e=>(sb.2 b hb).trans e) f0 f1 f3 f4 f5
  obtain ⟨o,e,c,d⟩:=id st'
  exact ⟨u,rfl,y6P (s:={ s with heap:=h' }) e c d (by decide) ⟨x,H,I1,ru,⟨rfl,fun ys hy=>by rw [I.list_inj hy hq]; exact hx⟩,st',fun b hb=>(hf b hb).1⟩⟩
 done:=by
  intro X hP hw hK hc i pins s σ H E I hf st hg
  subst hP hw hK
  obtain ⟨xs,hq,hx⟩:=hg
  obtain ⟨its,rv,p,hz⟩:=I.list hq
  obtain ⟨f0,f1,f2,f3,f4,f5⟩:=hf it (by simp)
  have hl:=rv.length
  exact wpAny_pyNext_list_end (I.ok.hd hc) st p.isList (by simp; omega) fun h' eb=>⟨rfl,I.turned (t':=s.toks) (fun b o hb e=>eb b o hb e) f0 f1 f3 f4 f5⟩
 self:=fun _ _ _ _ _ st h=>wpAny_pyIter_listiter st h
theorem y2r {P : Program} {w : World} {K : aa} {tg : Expr} (a it : Addr) : Turn P w K tg (Itt K a) [it] it (fun i h=>h.IsTupleIter it a i) where
 mem:=by simp
 obj:=fun i h st b hb=>by
  have e : b=it:=by simpa using hb
  subst e
  obtain ⟨o,e,c,d⟩:=st
  exact ⟨o,e,fun v z=>by rw [d] at z; cases z⟩
 keep:=fun i h h' st k=>st.at fun o e=>k it (by simp) o e
 item:=by
  intro X hP hw hK hc i pins s σ H E I hf st hg
  subst hP hw hK
  obtain ⟨xs,x,hq,hx⟩:=hg
  obtain ⟨its,rv,p,hz⟩:=I.tuple hq
  obtain ⟨u,hu,ru⟩:=rv.get hx
  obtain ⟨f0,f1,f2,f3,f4,f5⟩:=hf it (by simp)
  refine wpAny_pyNext_tuple_item st (show s.heap.IsTuple a its.toArray from p) (x:=u) (by simpa using hu) fun h' st' sb=>?_
  have I1 : Inv X pins σ H { s with heap:=h' }:=I.turned (t':=s.toks) (fun b o hb e=>(sb.2 b hb).trans e) f0 f1 f3 f4 f5
  obtain ⟨o,e,c,d⟩:=id st'
  exact ⟨u,rfl,y6P (s:={ s with heap:=h' }) e c d (by decide) ⟨x,H,I1,ru,⟨rfl,fun ys hy=>by rw [I.tuple_inj hy hq]; exact hx⟩,st',fun b hb=>(hf b hb).1⟩⟩
 done:=by
  intro X hP hw hK hc i pins s σ H E I hf st hg
  subst hP hw hK
  obtain ⟨xs,hq,hx⟩:=hg
  obtain ⟨its,rv,p,hz⟩:=I.tuple hq
  obtain ⟨f0,f1,f2,f3,f4,f5⟩:=hf it (by simp)
  have hl:=rv.length
  exact wpAny_pyNext_tuple_end (I.ok.hd hc) st (show s.heap.IsTuple a its.toArray from p) (by simp; omega) fun h' eb=>⟨rfl,I.turned (t':=s.toks) (fun b o hb e=>eb b o hb e) f0 f1 f3 f4 f5⟩
 self:=fun _ _ _ _ _ st h=>wpAny_pyIter_tupleiter st h
theorem y2I {P : Program} {w : World} {K : aa} {tg : Expr} (it : Addr) (lo : Int) (n : Nat) : Turn P w K tg (Itr lo n) [it] it (fun i h=>IsRangeIter h it (lo + (i : Nat) * 1) ((n : Int) - (i : Nat)) 1) where
 mem:=by simp
 obj:=fun i h st b hb=>by
  have e : b=it:=by simpa using hb
  subst e
  exact ⟨_,st,fun v z=>by
   have z' : Data.fields _=Data.cell v:=z
   cases z'⟩
 keep:=fun i h h' st k=>k it (by simp) _ st
 item:=by
  intro X hP hw hK hc i pins s σ H E I hf st hg
  subst hP hw hK
  obtain ⟨f0,f1,f2,f3,f4,f5⟩:=hf it (by simp)
  have W:=Walks.range (prog:=X.prog) (w:=X.w) (I.ok.hd hc) it lo 1 n
  refine W.item i s _ _ hg st fun v h' tk hv st' kk=>?_
  obtain ⟨t,rfl⟩:=hv
  have I1 : Inv X pins σ H { s with heap:=h',toks:=tk }:=I.turned (fun b o hb e=>kk b o (by simpa using hb) e) f0 f1 f3 f4 f5
  refine ⟨_,rfl,y6P (s:={ s with heap:=h',toks:=tk }) (n := "range_iterator") st' rfl rfl (by decide) ⟨.int (lo + i),H,I1,⟨t,?_⟩,⟨rfl,rfl⟩,st',fun b hb=>(hf b hb).1⟩⟩
  rw [Int.mul_one]
 done:=by
  intro X hP hw hK hc i pins s σ H E I hf st hg
  subst hP hw hK
  obtain ⟨f0,f1,f2,f3,f4,f5⟩:=hf it (by simp)
  exact wpAny_pyNext_range_end (I.ok.hd hc) st (by have : n≤i:=hg; omega) fun h' eb=>⟨rfl,I.turned (t':=s.toks) (fun b o hb e=>eb b o hb e) f0 f1 f3 f4 f5⟩
 self:=fun _ _ _ _ _ st h=>wpAny_pyIter_rangeiter st h
end L2
namespace L2
open PySem PySem.Spec PyProof.Rows
section
variable {X : Cx} {tg : Expr}
theorem y1G {pins : List (Addr × Obj)} {σ : St} {H : Hp} {s : Shared} {R : It->Hp->Prop} {E : Value->Shared->Prop} {lo hi : Int} {t u v : Tok} {tk : Nat} (I : Inv X pins σ H s) (h1 : -(2 ^ 62)≤lo) (h2 : lo < 2 ^ 62) (h3 : -(2 ^ 62)≤hi) (h4 : hi < 2 ^ 62)
  (q : R (Itr lo (hi - lo).toNat) H) : wpAny (model X.prog X.w) X.A (pyIter (.ref s.heap.objs.size)) (PIE X pins σ tg R) E { s with heap:=s.heap.push { cls:=.type "range",data:=.fields #[.int lo t,.int hi u,.int 1 v] },toks:=tk }:=by
 refine wpAny_pyIter_range (IsRange.new ..) (small_one h1 h2 h3 h4) ?_
 have I1 : Inv X pins σ H { s with heap:=s.heap.push { cls:=.type "range",data:=.fields #[.int lo t,.int hi u,.int 1 v] },toks:=tk }:=I.kept fun b o e=>Heap.get?_push_of_some _ e
 refine ⟨(s.heap.push { cls:=.type "range",data:=.fields #[.int lo t,.int hi u,.int 1 v] }).objs.size,[(s.heap.push { cls:=.type "range",data:=.fields #[.int lo t,.int hi u,.int 1 v] }).objs.size],_,_,H,rfl,
  I1.kept (t':=tk) fun b o e=>Heap.get?_push_of_some _ e,y2I _ lo (hi - lo).toNat,?_,fun b hb=>?_,q⟩
 ·have e1 : lo + ((0 : Nat) : Int) * 1=lo:=by simp
  have e2 : (((hi - lo).toNat : Nat) : Int) - ((0 : Nat) : Int)=Builtin.Range.rangeSize lo hi 1:=by rw [rangeSize_one]; split <;> omega
  show IsRangeIter _ _ (lo + ((0 : Nat) : Int) * 1) ((((hi - lo).toNat : Nat) : Int) - ((0 : Nat) : Int)) 1
  rw [e1,e2]
  exact Heap.get?_push_size _ rfl
 ·have e : b=(s.heap.push { cls:=.type "range",data:=.fields #[.int lo t,.int hi u,.int 1 v] }).objs.size:=by simpa using hb
  subst e
  exact I1.fpOk (ar _) (I1.hok.fresh (ar _))
noncomputable def iRng1 (ta : TA) : TI:=fun σ H R=>ta σ H fun vs H1=>∃ j : Int,vs=[.int j]∧-(2 ^ 62)≤j∧j < 2 ^ 62∧R (Itr 0 j.toNat) H1
noncomputable def iRng2 (ta : TA) : TI:=fun σ H R=>ta σ H fun vs H1=>∃ i j : Int,vs=[.int i,.int j]∧(-(2 ^ 62)≤i∧i < 2 ^ 62∧-(2 ^ 62)≤j∧j < 2 ^ 62)∧R (Itr i (j - i).toNat) H1
theorem z9G {a : Expr} {ta : TA} {p pos : Pos} (hg : Gl X "range") (hm : X.mg "range" = none) (ha : PA X [a] ta) (hs : starEach [a] X.env=[(false,eval a X.env)]:=by rfl) : PI X tg (.Call (.Name "range" p) [a] [] pos) (iRng1 ta):=by
 intro pins s σ H R I h
 refine Call_ (z4H I hg hm boot_range (PyProof.Rows.callWith_type1 (thn (ha pos pins s σ H _ I h) fun us s1 ⟨vs,H1,I1,r1,q1⟩=>?_) hs rfl))
 obtain ⟨j,e,q1,q2,q⟩:=q1
 subst e
 cases r1 with
 | cons r rr=>
  cases rr
  obtain ⟨t,rfl⟩:=r
  exact call_range_1 (y1G I1 (by omega) (by omega) q1 q2 (by simpa using q))
theorem y3i {a b : Expr} {ta : TA} {p pos : Pos} (hg : Gl X "range") (hm : X.mg "range" = none) (ha : PA X [a,b] ta) (hs : starEach [a,b] X.env=[(false,eval a X.env),(false,eval b X.env)]:=by rfl) (hs2 : starEach [b] X.env=[(false,eval b X.env)]:=by rfl) :
  PI X tg (.Call (.Name "range" p) [a,b] [] pos) (iRng2 ta):=by
 intro pins s σ H R I h
 refine Call_ (z4H I hg hm boot_range (PyProof.Rows.callWith_type1 (thn (ha pos pins s σ H _ I h) fun us s1 ⟨vs,H1,I1,r1,q1⟩=>?_) (by rw [hs,hs2]) (by rw [hs2]; rfl)))
 obtain ⟨i,j,e,⟨q1,q2,q3,q4⟩,q⟩:=q1
 subst e
 cases r1 with
 | cons r rr=>
  cases rr with
  | cons r' rr=>
   cases rr
   obtain ⟨t,rfl⟩:=r
   obtain ⟨t',rfl⟩:=r'
   exact call_range_2 (y1G I1 q1 q2 q3 q4 q)
noncomputable def tFor (wi : TI) (g : TG) (tb : TS) : TS:=fun D σ H=>wi σ H fun J H1=>∃ W : Nat->Nat->St->Hp->Prop,(∃ m,W 0 m σ H1)∧∀ i m σ H,W i m σ H →
 (J.stop i H∧D.nx σ H)∨(J.go i H∧∃ N : St->Hp->Prop,(∀ σ' H',N σ' H'->∃ m',m' < m∧W (i + 1) m' σ' H')∧∀ x H',J.yld i H x H'->g x σ H' fun σ2 H2=>tb { D with nx:=N,ct:=N,bk:=D.nx } σ2 H2)
noncomputable def z9D (fp : List Addr) (h : Heap) : List (Addr × Obj):=fp.filterMap fun b=>(h.get? b).map fun o=>(b,o)
theorem z3W {fp : List Addr} {h : Heap} {b : Addr} {o : Obj} (hb : b∈fp) (e : h.get? b=some o) : (b,o)∈z9D fp h:=eI.mpr ⟨b,hb,by rw [e]; rfl⟩
theorem y5h {fp : List Addr} {h : Heap} {p : Addr × Obj} (hp : p∈z9D fp h) : p.1∈fp∧h.get? p.1=some p.2:=by
 obtain ⟨b,hb,e⟩:=eI.mp hp
 cases q : h.get? b with
 | none=>rw [q] at e; cases e
 | some o=>
  rw [q] at e
  have e' : (b,o)=p:=Option.some.inj e
  subst e'
  exact ⟨hb,q⟩
theorem Inv.pinned {pins : List (Addr × Obj)} {σ : St} {H : Hp} {s : Shared} {fp : List Addr} (I : Inv X pins σ H s) (hf : ∀ b∈fp,y0v X pins H b) (ho : ∀ b∈fp,∃ o,s.heap.get? b=some o∧∀ v,o.data≠.cell v) : Inv X (pins ++ z9D fp s.heap) σ H s:=
 I.pins_of fun p hp=>(aF.mp hp).elim (fun z=>I.pin p (aW _ z)) fun z=>by
  obtain ⟨hb,e⟩:=y5h z
  obtain ⟨f0,f1,f2,_⟩:=hf p.1 hb
  obtain ⟨o,e',d⟩:=ho p.1 hb
  rw [e] at e'; cases e'
  exact ⟨e,f0,f1,f2,d⟩
theorem Inv.unpinned {pins pl : List (Addr × Obj)} {σ : St} {H : Hp} {s : Shared} (I : Inv X (pins ++ pl) σ H s) : Inv X pins σ H s:=I.pins_of fun p hp=>I.pin p (aW _ (bO _ hp))
theorem y5o {iter : Expr} {body : List Stmt} {wi : TI} {g : TG} {tb : TS} {pos : Pos} (hp : PassesOwn (model X.prog X.w) X.A X.env X.xe) (hc : X.calm=true) (hi : PI X tg iter wi) (hg : PG X tg g) (hb : PSs X body tb)
  (hs : ∀ x,foldedSetIterable iter X.env x=pure x:=by intro _; rfl) : PS X (.For tg iter body [] pos) (tFor wi g tb):=by
 intro pins s σ H D I h
 refine wpAny_For (thn (hi pins s σ H _ I h) fun v s1 h1=>thn h1 fun itv s2 h2=>?_) hs
 obtain ⟨it,fp,tn,J,H2,e,I2,T,st2,f2,W,⟨m0,w0⟩,turn⟩:=h2
 subst e
 have stat : ∀ {H' : Hp},(∀ b∈fp,H' b=none)->∀ b∈fp,y0v X pins H' b:=fun hn b hb=>⟨hn b hb,(f2 b hb).2⟩
 refine codeAny_forLoop_any (fun n s'=>∃ i σ' H',Inv X pins σ' H' s'∧tn i s'.heap∧(∀ b∈fp,H' b=none)∧W i n σ' H') ?_ m0 ⟨0,σ,H2,I2,st2,fun b hb=>(f2 b hb).1,w0⟩
 rintro n s3 ⟨i,σ3,H3,I3,st3,fr3,w3⟩
 rcases turn i n σ3 H3 w3 with ⟨stop,qn⟩ | ⟨go,N,hN,step⟩
 ·refine wpAny_passesOwn hp (thn (T.done X rfl rfl rfl hc i pins s3 σ3 H3 X.xe I3 (stat fr3) st3 stop) fun r s4 ⟨hr,I4⟩=>?_)
  subst hr
  exact wpAny_execs_nil ⟨σ3,H3,I4,qn⟩
 ·refine wpAny_passesOwn hp (thn (T.item X rfl rfl rfl hc i pins s3 σ3 H3 X.xe I3 (stat fr3) st3 go) fun r s4 ⟨u,hr,h4⟩=>?_)
  subst hr
  refine wpAny_passesOwn hp (thn h4 fun _ s5 ⟨x,H5,I5,r5,y5,st5,fr5⟩=>?_)
  have I5':=I5.pinned (stat fr5) (T.obj _ _ st5)
  refine wpAny_passesOwn hp (thn (hg _ s5 σ3 H5 x u _ I5' r5 (step x H5 y5)) fun _ s6 ⟨σ6,H6,I6,q6⟩=>?_)
  refine wpAny_passesOwn hp (thn (hb _ s6 σ6 H6 _ I6 q6) fun f s7 q7=>?_)
  have again : ∀ {σ7 : St} {H7 : Hp},Inv X (pins ++ z9D fp s5.heap) σ7 H7 s7->N σ7 H7->∃ m,m < n∧∃ i σ' H',Inv X pins σ' H' s7∧tn i s7.heap∧(∀ b∈fp,H' b=none)∧W i m σ' H':=fun {σ7 H7} I7 n7=>by
   obtain ⟨m',hm,w7⟩:=hN σ7 H7 n7
   refine ⟨m',hm,i + 1,σ7,H7,I7.unpinned,T.keep _ _ _ st5 fun b hb o e=>(I7.pin (b,o) (aW _ (aW _ (z3W hb e)))).1,fun b hb=>?_,w7⟩
   obtain ⟨o,e,d⟩:=T.obj _ _ st5 b hb
   exact (I7.pin (b,o) (aW _ (aW _ (z3W hb e)))).2.1
  cases f with
  | next=>obtain ⟨σ7,H7,I7,n7⟩:=q7; exact again I7 n7
  | cont=>obtain ⟨σ7,H7,I7,n7⟩:=q7; exact again I7 n7
  | brk=>obtain ⟨σ7,H7,I7,q7⟩:=q7; exact ⟨σ7,H7,I7.unpinned,q7⟩
  | ret v=>obtain ⟨x7,σ7,H7,I7,r7,q7⟩:=q7; exact ⟨x7,σ7,H7,I7.unpinned,r7,q7⟩
end
end L2
namespace L2
open PySem PySem.Spec PyProof.Rows
noncomputable abbrev R2:=V->V->Hp->VK->Prop
noncomputable def OpR (X : Cx) (f : Value->Value->Sem Value) (r : R2) : Prop:=
 ∀ (pins : List (Addr × Obj)) (s : Shared) (σ : St) (H : Hp) (x y : V) (v u : Value) (Q : VK),Inv X pins σ H s->RelV x v->RelV y u->r x y H Q →
  wpAny (model X.prog X.w) X.A (f v u) (EP X pins σ Q) X.xe s
noncomputable def UnR (X : Cx) (f : Value->Sem Value) (r : V->Hp->VK->Prop) : Prop:=
 ∀ (pins : List (Addr × Obj)) (s : Shared) (σ : St) (H : Hp) (x : V) (v : Value) (Q : VK),Inv X pins σ H s->RelV x v->r x H Q →
  wpAny (model X.prog X.w) X.A (f v) (EP X pins σ Q) X.xe s
noncomputable def z5C (X : Cx) (f : Value) (r : List V->Hp->VK->Prop) : Prop:=
 ∀ (pins : List (Addr × Obj)) (s : Shared) (σ : St) (H : Hp) (xs : List V) (us : List Value) (Q : VK),Inv X pins σ H s->Vals xs us->r xs H Q →
  wpAny (model X.prog X.w) X.A (call f us) (EP X pins σ Q) X.xe s
noncomputable def TruR (X : Cx) (r : V->Hp->(Bool->Hp->Prop)->Prop) : Prop:=
 ∀ (pins : List (Addr × Obj)) (s : Shared) (σ : St) (H : Hp) (x : V) (v : Value) (Q : Bool->Hp->Prop),Inv X pins σ H s->RelV x v->r x H Q →
  wpAny (model X.prog X.w) X.A (truthy v) (TP X pins σ Q) X.xe s
noncomputable def tOp (r : R2) (ta tb : TE) : TE:=fun σ H Q=>ta σ H fun x H1=>tb σ H1 fun y H2=>r x y H2 Q
noncomputable def tUn (r : V->Hp->VK->Prop) (ta : TE) : TE:=fun σ H Q=>ta σ H fun x H1=>r x H1 Q
noncomputable def rI (C : Int->Int->Prop) (g : Int->Int->V) : R2:=fun x y H Q=>∃ i j,x = .int i∧y = .int j∧C i j∧Q (g i j) H
noncomputable def rI0 (g : Int->Int->V) : R2:=fun x y H Q=>∃ i j,x = .int i∧y = .int j∧Q (g i j) H
noncomputable def rU (g : Int->V) : V->Hp->VK->Prop:=fun x H Q=>∃ i,x = .int i∧Q (g i) H
section
variable {X : Cx} {a b c : Expr} {ta tb tc : TE} {pos : Pos}
theorem binT (ha : PE X a ta) (hb : PE X b tb) {pins : List (Addr × Obj)} {s : Shared} {σ : St} {H : Hp} {R : V->V->Hp->Prop} (I : Inv X pins σ H s)
  (h : ta σ H fun x H1=>tb σ H1 fun y H2=>R x y H2) {Q : Value->Shared->Prop} {f : Value->Value->Sem Value}
  (hf : ∀ v u s2 x y H2,Inv X pins σ H2 s2->RelV x v->RelV y u->R x y H2->wpAny (model X.prog X.w) X.A (f v u) Q X.xe s2) :
  wpAny (model X.prog X.w) X.A (eval a X.env) (fun v s₁=>wpAny (model X.prog X.w) X.A (eval b X.env) (fun u s₂=>wpAny (model X.prog X.w) X.A (f v u) Q X.xe s₂) X.xe s₁) X.xe s:=by
 refine thn (ha pins s σ H _ I h) fun v s1 ⟨x,H1,I1,r1,q1⟩=>?_
 refine thn (hb pins s1 σ H1 _ I1 q1) fun u s2 ⟨y,H2,I2,r2,q2⟩=>?_
 exact hf v u s2 x y H2 I2 r1 r2 q2
theorem pe_op {op : Operator} {r : R2} (ho : OpR X (binaryOp op) r) (ha : PE X a ta) (hb : PE X b tb) : PE X (.BinOp a op b pos) (tOp r ta tb):=by
 intro pins s σ H Q I h
 exact wpAny_BinOp (binT ha hb I h fun v u s2 x y H2 I2 rx ry q=>ho pins s2 σ H2 x y v u Q I2 rx ry q)
theorem pe_un {op : UnaryOp} {r : V->Hp->VK->Prop} (ho : UnR X (unaryOp op) r) (ha : PE X a ta) : PE X (.UnaryOp op a pos) (tUn r ta):=by
 intro pins s σ H Q I h
 exact UnaryOp_ (thn (ha pins s σ H _ I h) fun v s1 ⟨x,H1,I1,r1,q1⟩=>ho pins s1 σ H1 x v Q I1 r1 q1)
theorem opI {f : Value->Value->Sem Value} {C : Int->Int->Prop} {g : Int->Int->Int}
  (rule : ∀ (i j : Int) (t u : Tok) (s : Shared) (Q : Value->Shared->Prop) (E : Value->Shared->Prop),C i j->Q (.int (g i j) s.toks) { s with toks:=s.toks + 1 }->wpAny (model X.prog X.w) X.A (f (.int i t) (.int j u)) Q E s) :
  OpR X f (rI C fun i j=>.int (g i j)):=by
 intro pins s σ H x y v u Q I rx ry h
 obtain ⟨i,j,rfl,rfl,hc,q⟩:=h
 obtain ⟨t,rfl⟩:=rx
 obtain ⟨t',rfl⟩:=ry
 exact rule i j t t' s _ _ hc ⟨.int (g i j),H,I.tok _,⟨_,rfl⟩,q⟩
theorem opI0 {f : Value->Value->Sem Value} {g : Int->Int->Int}
  (rule : ∀ (i j : Int) (t u : Tok) (s : Shared) (Q : Value->Shared->Prop) (E : Value->Shared->Prop),Q (.int (g i j) s.toks) { s with toks:=s.toks + 1 }->wpAny (model X.prog X.w) X.A (f (.int i t) (.int j u)) Q E s) :
  OpR X f (rI0 fun i j=>.int (g i j)):=by
 intro pins s σ H x y v u Q I rx ry h
 obtain ⟨i,j,rfl,rfl,q⟩:=h
 obtain ⟨t,rfl⟩:=rx
 obtain ⟨t',rfl⟩:=ry
 exact rule i j t t' s _ _ ⟨.int (g i j),H,I.tok _,⟨_,rfl⟩,q⟩
theorem opB0 {f : Value->Value->Sem Value} {g : Int->Int->Bool}
  (rule : ∀ (i j : Int) (t u : Tok) (s : Shared) (Q : Value->Shared->Prop) (E : Value->Shared->Prop),Q (.bool (g i j)) s->wpAny (model X.prog X.w) X.A (f (.int i t) (.int j u)) Q E s) :
  OpR X f (rI0 fun i j=>.bl (g i j)):=by
 intro pins s σ H x y v u Q I rx ry h
 obtain ⟨i,j,rfl,rfl,q⟩:=h
 obtain ⟨t,rfl⟩:=rx
 obtain ⟨t',rfl⟩:=ry
 exact rule i j t t' s _ _ ⟨.bl (g i j),H,I,rfl,q⟩
noncomputable def CDiv (i j : Int) : Prop:=0 < j∧j < 1073741824
noncomputable def CDivN (i j : Int) : Prop:=j≠0∧j.natAbs < 1073741824
noncomputable def CPow (i j : Int) : Prop:=0≤j∧j≤1000000∧i.natAbs < 2 ^ 64
noncomputable def CMul (i j : Int) : Prop:=(-(2 ^ 64) < i∧i < 2 ^ 64)∨(-(2 ^ 64) < j∧j < 2 ^ 64)
theorem CMul.ok {i j : Int} (h : CMul i j) : IntMulOk i j:=by
 rcases h with ⟨h1,h2⟩ | ⟨h1,h2⟩
 ·exact .of_left (intBits_le_64 h1 h2)
 ·exact .of_right (intBits_le_64 h1 h2)
theorem op_add : OpR X (binaryOp .Add) (rI0 fun i j=>.int (i + j)):=opI0 fun _ _ _ _ _ _ _ q=>add_int q
theorem op_sub : OpR X (binaryOp .Sub) (rI0 fun i j=>.int (i - j)):=opI0 fun _ _ _ _ _ _ _ q=>sub_int q
theorem op_mul : OpR X (binaryOp .Mult) (rI CMul fun i j=>.int (i * j)):=opI fun _ _ _ _ _ _ _ hc q=>mul_int q hc.ok
theorem op_fdiv : OpR X (binaryOp .FloorDiv) (rI CDiv fun i j=>.int (i / j)):=opI fun i j _ _ _ _ _ hc q=>by
 have h1 : (0 : Int) < j:=hc.1
 have h2 : j < 1073741824:=hc.2
 exact floordiv_int (by omega) (by rw [Int.fdiv_eq_ediv_of_nonneg i (by omega)]; exact q) (.inl (PyProof.noPylong_small (by omega)))
theorem op_mod : OpR X (binaryOp .Mod) (rI (fun _ j=>0 < j) fun i j=>.int (i % j)):=opI fun i j _ _ _ _ _ hc q=>by
 have h1 : (0 : Int) < j:=hc
 exact mod_int' (by omega) (by rw [Int.fmod_eq_emod_of_nonneg i (by omega)]; exact q)
theorem unI {f : Value->Sem Value} {g : Int->Int}
  (rule : ∀ (i : Int) (t : Tok) (s : Shared) (Q : Value->Shared->Prop) (E : Value->Shared->Prop),Q (.int (g i) s.toks) { s with toks:=s.toks + 1 }->wpAny (model X.prog X.w) X.A (f (.int i t)) Q E s) :
  UnR X f (rU fun i=>.int (g i)):=by
 intro pins s σ H x v Q I rx h
 obtain ⟨i,rfl,q⟩:=h
 obtain ⟨t,rfl⟩:=rx
 exact rule i t s _ _ ⟨.int (g i),H,I.tok _,⟨_,rfl⟩,q⟩
theorem un_neg : UnR X (unaryOp .USub) (rU fun i=>.int (-i)):=unI fun _ _ _ _ _ q=>neg_int q
end
section
variable {X : Cx} {a b c : Expr} {ta tb tc : TE} {pos : Pos}
theorem op_lt : OpR X (compareOp .Lt) (rI0 fun i j=>.bl (decide (i < j))):=opB0 fun _ _ _ _ _ _ _ q=>lt_int q
theorem op_le : OpR X (compareOp .LtE) (rI0 fun i j=>.bl (decide (i≤j))):=opB0 fun _ _ _ _ _ _ _ q=>le_int q
theorem op_gt : OpR X (compareOp .Gt) (rI0 fun i j=>.bl (decide (j < i))):=opB0 fun _ _ _ _ _ _ _ q=>gt_int q
theorem z9m (b : Expr) {op : CmpOp} (h : op≠.In:=by decide) (h2 : op≠.NotIn:=by decide) : behindInMarks op b=false:=by
 have e1 : (op == CmpOp.In)=false:=by cases op <;> first | rfl | exact absurd rfl h
 have e2 : (op == CmpOp.NotIn)=false:=by cases op <;> first | rfl | exact absurd rfl h2
 cases b <;> simp [behindInMarks,e1,e2]
theorem pe_cmpR {op : CmpOp} {r : R2} (ho : OpR X (compareOp op) r) (ha : PE X a ta) (hb : PE X b tb) (hm : behindInMarks op b=false) : PE X (.Compare a [op] [b] pos) (tOp r ta tb):=by
 intro pins s σ H Q I h
 exact wpAny_Compare1 (binT ha hb I h fun v u s2 x y H2 I2 rx ry q=>ho pins s2 σ H2 x y v u Q I2 rx ry q) hm
noncomputable def tTest (t : TE) : TT:=fun σ H Q=>t σ H fun x H'=>∃ k,x = .bl k∧Q k H'
theorem pt_cmpR {op : CmpOp} {r : R2} (ho : OpR X (compareOp op) r) (ha : PE X a ta) (hb : PE X b tb) (hm : behindInMarks op b=false) : PT X (.Compare a [op] [b] pos) (tTest (tOp r ta tb)):=by
 intro pins s σ H Q I h
 refine wpAny_isTrue_Compare1 (thn (ha pins s σ H _ I h) fun v s1 ⟨x,H1,I1,r1,q1⟩=>thn (hb pins s1 σ H1 _ I1 q1) fun u s2 ⟨y,H2,I2,r2,q2⟩=>
  thn (ho pins s2 σ H2 x y v u _ I2 r1 r2 q2) fun c s3 ⟨z,H3,I3,r3,k,e,q3⟩=>?_) hm
 subst e
 cases r3
 exact wpAny_truthy_bool ⟨H3,I3,q3⟩
noncomputable def y8L (r r' : R2) (ta tb tc : TE) : TE:=fun σ H Q=>ta σ H fun x H1=>tb σ H1 fun y H2=>r x y H2 fun z H3=>∃ k,z = .bl k ∧
 (if k=true then tc σ H3 fun w' H4=>r' y w' H4 Q else Q (.bl false) H3)
theorem y6R {op op' : CmpOp} {r r' : R2} (ho : OpR X (compareOp op) r) (ho' : OpR X (compareOp op') r') (ha : PE X a ta) (hb : PE X b tb) (hc : PE X c tc)
  (hm : lastMarks [op,op'] [b,c]=false:=by with_unfolding_all rfl) : PE X (.Compare a [op,op'] [b,c] pos) (y8L r r' ta tb tc):=by
 intro pins s σ H Q I h
 refine Compare_chain (thn (ha pins s σ H _ I h) fun v s1 ⟨x,H1,I1,r1,q1⟩=>chain_link (thn (hb pins s1 σ H1 _ I1 q1) fun u s2 ⟨y,H2,I2,r2,q2⟩=>
  thn (ho pins s2 σ H2 x y v u _ I2 r1 r2 q2) fun d s3 ⟨z,H3,I3,r3,k,e,q3⟩=>?_)) hm
 subst e
 cases r3
 refine wpAny_truthy_bool ?_
 cases k with
 | false=>exact ite_ff ⟨.bl false,H3,I3,rfl,q3⟩
 | true=>exact ite_tt (chain_last (thn (hc pins s3 σ H3 _ I3 q3) fun w' s4 ⟨z',H4,I4,r4,q4⟩=>ho' pins s4 σ H4 y z' u w' Q I4 r2 r4 q4))
noncomputable def TruV (K : aa) (x : V) (H : Hp) (k : Bool) : Prop:=
 match x with
 | .non=>k=false
 | .bl b=>k=b
 | .int i=>k=(i != 0)
 | .str y=>y.length≤sizeLine∧k=((y.length : Int) != 0)
 | .byt y=>y.size≤sizeLine∧k=((y.size : Int) != 0)
 | .ref p=>(∃ xs,SqL K H p xs∧k = !xs.isEmpty)∨(∃ xs,SqT K H p xs∧k = !xs.isEmpty)∨∃ kvs,H p=some (.dK kvs)∧k = !kvs.isEmpty
 | _=>False
theorem y2c {κ : Type} {kvs : List (κ × V)} {vs : List (κ × Value)} (r : KV kvs vs) : (!vs.isEmpty) = !kvs.isEmpty:=by
 cases r <;> rfl
theorem z7k {xs : List V} {its : List Value} (r : Vals xs its) : (!its.toArray.isEmpty) = !xs.isEmpty:=by
 cases r <;> simp
theorem z7f : (sizeLine : Nat) < 2 ^ 63:=by rw [sizeLine_eq]; decide
theorem tru_ok : TruR X (fun x H Q=>∃ k,TruV X.K x H k∧Q k H):=by
 intro pins s σ H x v Q I rx h
 obtain ⟨k,e,q⟩:=h
 have hl:=z7f
 have hs : sizeLine=16777216:=sizeLine_eq
 cases x with
 | non=>
  cases rx
  have e' : k=false:=e
  subst e'
  exact truthy_none ⟨H,I,q⟩
 | bl b=>
  cases rx
  have e' : k=b:=e
  subst e'
  exact wpAny_truthy_bool ⟨H,I,q⟩
 | int i=>
  obtain ⟨t,rfl⟩:=rx
  have e' : k=(i != 0):=e
  subst e'
  exact PySem.P.truthy_int ⟨H,I,q⟩
 | str y=>
  obtain ⟨t,rfl⟩:=rx
  obtain ⟨hy,e'⟩ : y.length≤sizeLine∧k=((y.length : Int) != 0):=e
  subst e'
  exact PySem.P.truthy_str (by omega) ⟨H,I.tok _,q⟩
 | byt y=>
  obtain ⟨t,rfl⟩:=rx
  obtain ⟨hy,e'⟩ : y.size≤sizeLine∧k=((y.size : Int) != 0):=e
  subst e'
  exact PySem.W.truthy_bytes (by omega) ⟨H,I.tok _,q⟩
 | ref p=>
  cases rx
  have e' : (∃ xs,SqL X.K H p xs∧k = !xs.isEmpty)∨(∃ xs,SqT X.K H p xs∧k = !xs.isEmpty)∨∃ kvs,H p=some (.dK kvs)∧k = !kvs.isEmpty:=e
  rcases e' with ⟨xs,hx,e'⟩ | ⟨xs,hx,e'⟩ | ⟨kvs,hx,e'⟩
  ·subst e'
   obtain ⟨its,r,pl,hz⟩:=I.list hx
   have hlen:=r.length
   exact wpAny_truthy_list pl.isList (by simp only [aE]; omega) ⟨H,I.tok _,by rw [z7k r]; exact q⟩
  ·subst e'
   obtain ⟨its,r,pl,hz⟩:=I.tuple hx
   have hlen:=r.length
   exact truthy_tuple pl (by simp only [aE]; omega) ⟨H,I.tok _,by rw [z7k r]; exact q⟩
  ·subst e'
   obtain ⟨hz,hS,vs,r,m⟩ : kvs.length≤sizeLine∧(p == sysModules)=false∧∃ vs,KV kvs vs∧s.heap.DictOf (z1g X.prog X.w) p vs:=I.hok p _ hx
   have hlen : kvs.length=vs.length:=Paired.length r
   exact wpAny_truthy_dict hS m (by omega) ⟨H,I.tok _,by rw [y2c r]; exact q⟩
 | _=>exact (show False from e).elim
theorem y6G (ha : PE X a ta) (he : ∀ whole,isTrue a X.env whole=(do let v ← whole; standAt a.pos; holding [v] (truthy v))) :
  PT X a (fun σ H Q=>ta σ H fun x H'=>∃ k,TruV X.K x H' k∧Q k H'):=by
 intro pins s σ H Q I h
 exact isTrue_plain (thn (ha pins s σ H _ I h) fun v s1 ⟨x,H1,I1,r1,q1⟩=>tru_ok pins s1 σ H1 x v Q I1 r1 q1) (he _)
theorem y2F {x : V} {us : List Value} (r : Vals [x] us) : ∃ u,us=[u]∧RelV x u:=by
 cases r with
 | cons r1 r2=>cases r2; exact ⟨_,rfl,r1⟩
theorem vals2 {x y : V} {us : List Value} (r : Vals [x,y] us) : ∃ u w',us=[u,w']∧RelV x u∧RelV y w':=by
 cases r with
 | cons r1 r2=>
  cases r2 with
  | cons r3 r4=>cases r4; exact ⟨_,_,rfl,r1,r3⟩
theorem y4L (hc : X.calm=true) : z5C X (.builtin "min") (fun xs H Q=>∃ i j,xs=[.int i,.int j]∧Q (.int (if j < i then j else i)) H):=by
 intro pins s σ H xs us Q I r h
 obtain ⟨i,j,rfl,q⟩:=h
 obtain ⟨u,w',rfl,⟨t,rfl⟩,⟨t',rfl⟩⟩:=vals2 r
 refine min_two_ints (I.ok.hd hc) fun h' tk k=>⟨_,H,I.kept k,?_,q⟩
 by_cases hj : j < i
 ·rw [if_pos hj,if_pos hj]; exact ⟨_,rfl⟩
 ·rw [if_neg hj,if_neg hj]; exact ⟨_,rfl⟩
noncomputable def LenV (K : aa) (x : V) (H : Hp) (n : Nat) : Prop:=
 match x with
 | .str y=>y.length≤sizeLine∧n=y.length
 | .byt y=>y.size≤sizeLine∧n=y.size
 | .ref p=>(∃ xs,SqL K H p xs∧n=xs.length)∨∃ xs,SqT K H p xs∧n=xs.length
 | _=>False
theorem y7V : z5C X (.builtin "len") (fun xs H Q=>∃ x n,xs=[x]∧LenV X.K x H n∧Q (.int n) H):=by
 intro pins s σ H xs us Q I r h
 obtain ⟨x,n,rfl,e,q⟩:=h
 obtain ⟨u,rfl,rx⟩:=y2F r
 have hl:=z7f
 have hs : sizeLine=16777216:=sizeLine_eq
 cases x with
 | str y=>
  obtain ⟨t,rfl⟩:=rx
  obtain ⟨hy,e'⟩ : y.length≤sizeLine∧n=y.length:=e
  subst e'
  exact len_str (by omega) ⟨.int _,H,I.tok _,⟨_,rfl⟩,q⟩
 | byt y=>
  obtain ⟨t,rfl⟩:=rx
  obtain ⟨hy,e'⟩ : y.size≤sizeLine∧n=y.size:=e
  subst e'
  exact PySem.W.len_bytes (by omega) ⟨.int _,H,I.tok _,⟨_,rfl⟩,q⟩
 | ref p=>
  cases rx
  have e' : (∃ xs,SqL X.K H p xs∧n=xs.length)∨∃ xs,SqT X.K H p xs∧n=xs.length:=e
  rcases e' with ⟨xs,hx,e'⟩ | ⟨xs,hx,e'⟩
  ·subst e'
   obtain ⟨its,r',pl,hz⟩:=I.list hx
   have hlen:=r'.length
   exact Calls.call_len_list pl.isList (by simp only [aE]; omega) ⟨.int xs.length,H,I.tok _,⟨_,by simp only [aE]; rw [hlen]⟩,q⟩
  ·subst e'
   obtain ⟨its,r',pl,hz⟩:=I.tuple hx
   have hlen:=r'.length
   exact len_tuple pl (by simp only [aE]; omega) ⟨.int xs.length,H,I.tok _,⟨_,by simp only [aE]; rw [hlen]⟩,q⟩
 | _=>exact (show False from e).elim
end
end L2
namespace L2
open PySem PySem.Spec PyProof.Rows
structure ObjM (h : Heap) (x dx C : Addr) (mA : Str->Option Value) : Prop where
 obj : h.get? x=some (eF C dx)
 ns : h.Ns1 dx mA
 ne : dx≠x
section
variable {prog : Program} {w : World} {A : Around} {E : Value->Shared->Prop} {s : Shared} {K : aa} {x dx C f : Addr} {mA : Str->Option Value} {name : Str} {v : Value}
end
section
variable {P : Program} {w : World} {H H' : Hp} {h h' : Heap} {a C dx : Addr} {fs fs' : List (Str × V)}
end
structure Cls (K : aa) (C : Addr) : Prop where
 pg : PySem.W.plainGet K C Str.empty=true
 hd : PySem.W.hasDictIn K C=true
 po : PySem.W.plainOver K C=true
 sa : bd K (.ref C) "__setattr__" = some (some (.builtin "object.__setattr__"))
structure Con (K : aa) (C : Addr) (f : Str) (v : V) (u : Value) : Prop where
 at_ : bd K (.ref C) f=some (some u)
 rel : RelV v u
 get : cB K u "__get__" = some none
 cp : PySem.W.copiedNames.contains f=false
structure Meth (K : aa) (C : Addr) (m : Str) (f : Addr) : Prop where
 at_ : bd K (.ref C) m=some (some (.ref f))
 fn : PySem.W.isFn K (.ref f)=true
 kp : av K (.ref f)=true
section
variable {X : Cx} {pins : List (Addr × Obj)} {σ : St} {H : Hp} {s : Shared} {a C dx : Addr} {fs : List (Str × V)} {f : Str} {v : V} {A : Around} {E : Value->Shared->Prop}
end
section
variable {X : Cx} {o e value : Expr} {f : Str} {pos pos' tpos : Pos} {ta tv : TE}
end
section
variable {X : Cx} {pins : List (Addr × Obj)} {σ : St} {H : Hp} {s : Shared} {A : Around} {E : Value->Shared->Prop} {Q : Value->Shared->Prop} {c : Value} {b : Bool}
inductive TyOf (K : aa) (H : Hp) : V->Value->Prop where
 | non : TyOf K H .non (.type "NoneType")
 | bl (x : Bool) : TyOf K H (.bl x) (.type "bool")
 | int (i : Int) : TyOf K H (.int i) (.type "int")
 | str (x : Str) : TyOf K H (.str x) (.type "str")
 | flt (x : UInt64) : TyOf K H (.flt x) (.type "float")
 | lst {a : Addr} {xs : List V} (e : H a=some (.lst xs)) : TyOf K H (.ref a) (.type "list")
 | frz {a : Addr} {o : Obj} {xs : List V} (e : H a=some (.frz o (.lst xs))) : TyOf K H (.ref a) (.type "list")
 | tup {a : Addr} {xs : List V} (e : H a=some (.tup xs)) : TyOf K H (.ref a) (.type "tuple")
 | dK {a : Addr} {kvs : List (Key × V)} (e : H a=some (.dK kvs)) : TyOf K H (.ref a) (.type "dict")
 | dT {a : Addr} {kvs : List (List Key × V)} (e : H a=some (.dT kvs)) : TyOf K H (.ref a) (.type "dict")
 | ins {a C dx : Addr} {fs : List (Str × V)} (e : H a=some (.ins C dx fs)) (cl : Cls K C) (ha : bd K (.ref C) "__class__" = some (some (.builtin "object.__class__")))
   (hn : cB K (.builtin "object.__class__") "__get__" = some (some (.builtin "getset_descriptor.__get__"))) (htk : cZ K (.builtin "object.__class__")=some true)
   (hm : bW K C (.type "object")=some true) : TyOf K H (.ref a) (.ref C)
end
end L2
namespace L2
open PySem PySem.Spec PyProof.Rows
structure Room (k : Nat) (A : Around) : Prop where
 hd : A.handled=none
 dp : A.depth + 3 * k + 5 < recursionLimit
 un : A.units + 16 * k + 200 < cLine
theorem Room.mono {j k : Nat} {A : Around} (r : Room k A) (h : j≤k) : Room j A:=⟨r.hd,by have:=r.dp; omega,by have:=r.un; omega⟩
theorem Room.deeper {k : Nat} {A : Around} (r : Room (k + 1) A) (env : Env) : Room k (A.deeper env):=
 ⟨r.hd,by have:=r.dp; show A.depth + 1 + 3 * k + 5 < _; omega,by have:=r.un; show A.units + 3 + 16 * k + 200 < _; omega⟩
theorem Room.depth {k : Nat} {A : Around} (r : Room k A) : A.depth < recursionLimit:=by have:=r.dp; omega
theorem Room.units {k : Nat} {A : Around} (r : Room k A) : A.units + 64 < cLine:=by have:=r.un; omega
noncomputable def tNil : TA:=fun _ H Q=>Q [] H
noncomputable def tCons (ta : TE) (tr : TA) : TA:=fun σ H Q=>ta σ H fun x H1=>tr σ H1 fun xs H2=>Q (x :: xs) H2
section
variable {X : Cx} {e : Expr} {es : List Expr} {te : TE} {t : TA} {pos : Pos}
theorem pa_nil : PA X [] tNil:=fun _ _ _ _ H Q I h=>Calls.spliced_nil ⟨[],H,I,.nil,h⟩
theorem z1x (ha : PE X e te) (hr : PA X es t) (hs : starEach (e :: es) X.env=(false,eval e X.env) :: starEach es X.env:=by rfl) : PA X (e :: es) (tCons te t):=by
 intro pos pins s σ H Q I h
 rw [hs]
 show wpAny _ _ (spliced ((false,eval e X.env) :: backTo pos (starEach es X.env))) _ _ s
 refine Calls.spliced_cons (thn (ha pins s σ H _ I h) fun u s1 ⟨x,H1,I1,r1,q1⟩=>?_)
 exact thn (hr pos pins s1 σ H1 _ I1 q1) fun us s2 ⟨xs,H2,I2,r2,q2⟩=>⟨x :: xs,H2,I2,.cons r1 r2,q2⟩
noncomputable def tTup (t : TA) : TE:=fun σ H Q=>t σ H fun xs H1=>xs.length≤sizeLine∧∀ p,H1 p=none->Q (.ref p) (upd H1 p (.tup xs))
noncomputable def tLst (t : TA) : TE:=fun σ H Q=>t σ H fun xs H1=>xs.length≤sizeLine∧∀ p,H1 p=none->Q (.ref p) (upd H1 p (.lst xs))
theorem pe_tup {x1} (h : PA X es t) : PE X (.Tuple es x1 pos) (tTup t):=by
 intro pins s σ H Q I hq
 refine wpAny_Tuple_spliced (thn (h pos pins s σ H _ I hq) fun us s1 ⟨xs,H1,I1,r,z,q⟩=>⟨by rw [← r.length]; exact z,?_⟩)
 have hf : H1 s1.heap.objs.size=none:=I1.hok.fresh (ar _)
 refine ⟨.ref s1.heap.objs.size,upd H1 s1.heap.objs.size (.tup xs),I1.laid (t':=s1.toks) (fun b u e=>Heap.get?_push_of_some _ e) (ar _) ?_,rfl,q _ hf⟩
 exact ⟨z,us,r,TupN.new _ _⟩
theorem y4I (h : PA X es t) : PE X (.List es pos) (tLst t):=by
 intro pins s σ H Q I hq
 refine wpAny_List_spliced (thn (h pos pins s σ H _ I hq) fun us s1 ⟨xs,H1,I1,r,z,q⟩=>⟨by rw [← r.length]; exact z,?_⟩)
 have hf : H1 s1.heap.objs.size=none:=I1.hok.fresh (ar _)
 refine ⟨.ref s1.heap.objs.size,upd H1 s1.heap.objs.size (.lst xs),I1.laid (t':=s1.toks) (fun b u e=>Heap.get?_push_of_some _ e) (ar _) ?_,rfl,q _ hf⟩
 exact ⟨z,us,0,r,Heap.get?_push_size _ rfl⟩
end
noncomputable abbrev Sp:=List V->Hp->VK->XK->Prop
noncomputable abbrev CXT:=List Env->Hp->Shared->XK->Value->Shared->Prop
structure Env0 (P : Program) (w : World) (K : aa) (mg : Str->Option Value) (base : Heap) (A : Around) (outer : List Env) (s : Shared) (H : Hp) : Prop where
 frames : A.frames=some outer
 mod : Mod K mg base
 bs : ∀ b o,base.get? b=some o->s.heap.get? b=some o∧H b=none
 bsz : base.objs.size≤s.heap.objs.size
 funs : s.heap.FunFrames base outer
 frf : ∀ b∈frs outer,H b=none
 hok : HOk P w H s.heap
 bare : AllBare s.gens
noncomputable def CE (outer : List Env) (P : Program) (w : World) (H : Hp) (s : Shared) (Q : VK) (u : Value) (s' : Shared) : Prop:=
 ∃ v H',s'.os=s.os∧AllBare s'.gens∧Un (frs outer) [] H H' s.heap s'.heap∧HOk P w H' s'.heap∧RelV v u∧Q v H'
noncomputable def CR (CX : CXT) (outer : List Env) (P : Program) (w : World) (H : Hp) (s : Shared) (Q : VK) (E : XK) (r : Result) (s' : Shared) : Prop:=
 match r with
 | .ok (.ret u)=>CE outer P w H s Q u s'
 | .ok _=>False
 | .error e=>CX outer H s E e s'
structure FnOk (P : Program) (w : World) (K : aa) (mg : Str->Option Value) (base : Heap) (CX : CXT) (k : Nat) (f : Addr) (fd : FuncData) (ps : List Str) (sp : Sp) : Prop where
 len : ∀ vs H Q E,sp vs H Q E->vs.length=ps.length
 run : ∀ (A : Around) (outer : List Env) (s : Shared) (H : Hp) (args : Args) (us : List Value) (vs : List V) (Q : VK) (E : XK),Room k A->Env0 P w K mg base A outer s H->BindsTo s fd args (ps.zip us)->Vals vs us->sp vs H Q E →
  codeAny (model P w) A (.call (.ref f) args) (CR CX outer P w H s Q E) s
theorem FnOk.imp {P : Program} {w : World} {K : aa} {mg : Str->Option Value} {base : Heap} {CX : CXT} {k : Nat} {f : Addr} {fd : FuncData} {ps : List Str} {sp sp' : Sp} (F : FnOk P w K mg base CX k f fd ps sp)
  (h : ∀ vs H Q E,sp' vs H Q E->sp vs H Q E) : FnOk P w K mg base CX k f fd ps sp':=
 ⟨fun vs H Q E q=>F.len vs H Q E (h _ _ _ _ q),fun A outer s H args us vs Q E hr he hb hv hs=>F.run A outer s H args us vs Q E hr he hb hv (h _ _ _ _ hs)⟩
section
variable {X : Cx} {pins : List (Addr × Obj)} {σ : St} {H : Hp} {s s' : Shared}
theorem Inv.env0 (I : Inv X pins σ H s) : Env0 X.prog X.w X.K X.mg X.base X.A X.stack s H:=
 ⟨I.ok.frames,I.ok.mod,I.bs,aQ I.ok.bsz I.sz,I.stack,I.stkFree,I.hok,I.bare⟩
theorem Inv.after {Q : VK} {u : Value} (I : Inv X pins σ H s) (h : CE X.stack X.prog X.w H s Q u s') : EP X pins σ Q u s':=by
 obtain ⟨v,H',os,bare,un,hok,r,q⟩:=h
 obtain ⟨hh,g,d,t,os'⟩:=s'
 obtain rfl : os'=s.os:=os
 exact ⟨v,H',I.call (h':=hh) (g':=g) (d':=d) (t':=t) (ch:=[]) un hok bare (fun b z=>absurd z (by simp)),r,q⟩
end
noncomputable def tCall (sp : Sp) (dvs : List V) (E : XK) (t : TA) : TE:=fun σ H Q=>t σ H fun vs H1=>sp (vs ++ dvs) H1 Q E
noncomputable def Binds (K : aa) (fd : FuncData) (ps : List Str) (ds : List Value) : Prop:=
 ∀ (s : Shared) (us : List Value),K.In s.heap->(us ++ ds).length=ps.length->BindsTo s fd ⟨us,[]⟩ (ps.zip (us ++ ds))
theorem Binds.all {K : aa} {fd : FuncData} {ps : List Str} (h : ∀ us : List Value,us.length=ps.length->bindArgs fd ⟨us,[]⟩=pure (ps.zip us)) : Binds K fd ps []:=fun s us _ hl=>by
 rw [aL] at hl ⊢
 exact .of_eq (h us hl)
noncomputable def y4m (CX : CXT) (X : Cx) (E : XK) : Prop:=∀ (pins : List (Addr × Obj)) (σ : St) (H : Hp) (s : Shared) (e : Value) (s' : Shared),Inv X pins σ H s->CX X.stack H s E e s'->X.xe e s'
section
variable {X : Cx} {CX : CXT} {k : Nat} {f C : Addr} {fd : FuncData} {ps : List Str} {sp : Sp} {dvs : List V} {ds : List Value} {E : XK} {x m : Str} {p pos apos : Pos} {e o : Expr} {es : List Expr} {ta : TE} {t : TA}
theorem run_fn {pins : List (Addr × Obj)} {σ : St} {H : Hp} {s : Shared} {Q : VK} {us : List Value} {vs : List V} (F : FnOk X.prog X.w X.K X.mg X.base CX k f fd ps sp) (hr : Room k X.A) (hb : Binds X.K fd ps ds) (hd : Vals dvs ds) (hx : y4m CX X E)
  (I : Inv X pins σ H s) (r : Vals vs us) (h : sp (vs ++ dvs) H Q E) : wpAny (model X.prog X.w) X.A (call (.ref f) us) (EP X pins σ Q) X.xe s:=by
 have r2 : Vals (vs ++ dvs) (us ++ ds):=r.append hd
 have hl : (us ++ ds).length=ps.length:=by rw [← r2.length]; exact F.len _ _ _ _ h
 refine wpAny_call (codeAny_mono (F.run X.A X.stack s H ⟨us,[]⟩ (us ++ ds) (vs ++ dvs) Q E hr I.env0 (hb s us I.kIn hl) r2 h) fun r s' hq=>?_)
 cases r with
 | error e=>exact hx pins σ H s e s' I hq
 | ok fl=>
  cases fl with
  | ret u=>exact I.after hq
  | next=>exact False.elim hq
  | brk=>exact False.elim hq
  | cont=>exact False.elim hq
theorem pe_call (F : FnOk X.prog X.w X.K X.mg X.base CX k f fd ps sp) (hr : Room k X.A) (hg : Gl X x) (hm : X.mg x=some (.ref f)) (hk : av X.K (.ref f)=true) (hb : Binds X.K fd ps ds) (hd : Vals dvs ds) (hx : y4m CX X E)
  (ha : PA X (e :: es) t) (hdb : (x == ("__debug__" : Str))=false:=by decide) (he : starEach (e :: es) X.env=(false,eval e X.env) :: starEach es X.env:=by rfl) (hpl : (backTo pos (starEach es X.env)).any (·.1)=false:=by rfl) :
  PE X (.Call (.Name x p) (e :: es) [] pos) (tCall sp dvs E t):=by
 intro pins s σ H Q I h
 refine wpAny_Call_Name_kw (z9Y I hg hm ?_ hdb)
 refine dX (h₀:=X.base) I.ok.mod.kin hk (thn (ha pos pins s σ H _ I h) fun us s1 ⟨vs,H1,I1,r,q⟩=>⟨I1.kIn,?_⟩) he hpl
 exact run_fn F hr hb hd hx I1 r q
structure Mk (K : aa) (C f : Addr) : Prop where
 makes : PySem.W.makesIn K C=true
 init : bd K (.ref C) "__init__" = some (some (.ref f))
 fn : PySem.W.isFn K (.ref f)=true
 kp : av K (.ref C)=true
end
section
variable {X : Cx} {CX : CXT} {k : Nat} {f C : Addr} {fd : FuncData} {ps ks : List Str} {sp : Sp} {E : XK} {x m : Str} {p pos apos kpos : Pos} {e o : Expr} {es : List Expr} {kws : List Keyword} {te ta : TE} {t tk : TA} {nm : Option Str}
structure KBinds (K : aa) (fd : FuncData) (ps ks : List Str) (g : List Value->List Value->List Value) (gV : List V->List V->List V) : Prop where
 to : ∀ (s : Shared) (us ws : List Value),K.In s.heap->(g us ws).length=ps.length->BindsTo s fd ⟨us,ks.zip ws⟩ (ps.zip (g us ws))
 rel : ∀ {vs : List V} {us : List Value} {zs : List V} {ws : List Value},Vals vs us->Vals zs ws->Vals (gV vs zs) (g us ws)
variable {g : List Value->List Value->List Value} {gV : List V->List V->List V}
end
structure FnScope (N P : List Str) (sc : Scope) : Prop where
 kind : sc.kind = .function
 co : sc.isCoroutine=false
 gen : sc.isGenerator=false
 nd : N.Nodup
 pre : N.take P.length=P
 par : ∀ x∈P,sc.names.lookup x=some .local∨sc.names.lookup x=some .cell
 nofree : ∀ y∈sc.names,y.2≠.free
theorem z9B {kindOf : Str->Option NameKind} {x : Str} : ∀ {binds : List (Str × Value)} {m : Str->Option Value},(∀ v,(x,v) ∉ binds)->bindL kindOf binds m x=m x
 | [],_,_=>rfl
 | (n,v) :: r,m,h=>by
  unfold bindL
  rw [z9B fun w hw=>h w (ak _ hw)]
  split
  ·have : x≠n:=by rintro rfl; exact h v ah
   simp [this]
  ·rfl
theorem z8G {kindOf : Str->Option NameKind} {x : Str} : ∀ {binds : List (Str × Value)} {m : Str->Option Value},(∀ v,(x,v) ∉ binds)->bindC kindOf binds m x=m x
 | [],_,_=>rfl
 | (n,v) :: r,m,h=>by
  unfold bindC
  rw [z8G fun w hw=>h w (ak _ hw)]
  split
  ·rfl
  ·have : x≠n:=by rintro rfl; exact h v ah
   simp [this]
theorem z9u {kindOf : Str->Option NameKind} {x : Str} {v : Value} : ∀ {P : List Str} {vs : List Value} {i : Nat} {m : Str->Option Value},P.Nodup->P[i]? = some x->vs[i]? = some v->kindOf x=some .local →
  bindL kindOf (P.zip vs) m x=some v
 | [],_,_,_,_,h,_,_=>by simp at h
 | _ :: _,[],_,_,_,_,h,_=>by simp at h
 | p :: P,w :: vs,0,m,nd,h1,h2,hk=>by
  simp at h1 h2; subst h1; subst h2
  show bindL kindOf ((p,w) :: P.zip vs) m p=_
  unfold bindL
  rw [z9B fun v hv=>(aC.mp nd).1 (dm hv).1,if_pos hk]
  simp
 | p :: P,w :: vs,i + 1,m,nd,h1,h2,hk=>by
  show bindL kindOf ((p,w) :: P.zip vs) m x=_
  unfold bindL
  exact z9u (i:=i) (aC.mp nd).2 (by simpa using h1) (by simpa using h2) hk
theorem z9o {kindOf : Str->Option NameKind} {x : Str} {v : Value} : ∀ {P : List Str} {vs : List Value} {i : Nat} {m : Str->Option Value},P.Nodup->P[i]? = some x->vs[i]? = some v->kindOf x≠some .local →
  bindC kindOf (P.zip vs) m x=some v
 | [],_,_,_,_,h,_,_=>by simp at h
 | _ :: _,[],_,_,_,_,h,_=>by simp at h
 | p :: P,w :: vs,0,m,nd,h1,h2,hk=>by
  simp at h1 h2; subst h1; subst h2
  show bindC kindOf ((p,w) :: P.zip vs) m p=_
  unfold bindC
  rw [z8G fun v hv=>(aC.mp nd).1 (dm hv).1,if_neg hk]
  simp
 | p :: P,w :: vs,i + 1,m,nd,h1,h2,hk=>by
  show bindC kindOf ((p,w) :: P.zip vs) m x=_
  unfold bindC
  exact z9o (i:=i) (aC.mp nd).2 (by simpa using h1) (by simpa using h2) hk
noncomputable def z4d (N : List Str) (vs : List V) : St:=vs.map some ++ aj (N.length - vs.length) none
noncomputable def z9R (CX : CXT) (P : Program) (w : World) (K : aa) (mg : Str->Option Value) (base : Heap) (N : List Str) (qual : Str) (scope : Scope) (f : Addr) (cd : Value) (A : Around) (outer : List Env) (s : Shared) (H : Hp) (E : XK) : Cx where
 prog:=P
 w:=w
 K:=K
 mg:=mg
 base:=base
 A:=A.deeper (envOfC qual scope s.heap.objs.size f cd)
 N:=N
 s₀:=s
 H₀:=H
 env:=envOfC qual scope s.heap.objs.size f cd
 outer:=outer
 stack:=envOfC qual scope s.heap.objs.size f cd :: outer
 ex:=[]
 calm:=true
 fn:=fun _=>true
 pn:=[]
 xe:=fun e s'=>wpAny (model P w) (A.deeper (envOfC qual scope s.heap.objs.size f cd)) (leaving (envOfC qual scope s.heap.objs.size f cd) e) (fun _ s''=>CX outer H s E e s'') (fun e' s''=>CX outer H s E e' s'') s'
theorem y1H {sc : Scope} {n : Nat} {x : Str} (h : sc.names.lookup x=some .cell) : ∃ c,(cellsFrom n sc.names []).lookup x=some c:=by
 have q:=dF sc.names n [] (.inl h)
 exact cC.mp q
theorem y4j {CX : CXT} {P : Program} {w : World} {K : aa} {mg : Str->Option Value} {base : Heap} {N ps : List Str} {qual : Str} {scope : Scope} {f : Addr} {cd : Value} {A : Around} {outer : List Env} {s s1 : Shared} {H : Hp} {E : XK} {us : List Value} {vs : List V}
  (S : FnScope N ps scope) (hd : A.handled=none) (e0 : Env0 P w K mg base A outer s H) (hl : vs.length=ps.length) (r : Vals vs us)
  (x : InCallC s s.heap.objs.size (bindL (envOfC qual scope s.heap.objs.size f cd).kindOf (ps.zip us) fun _=>none) (cellsFrom (s.heap.objs.size + 1) scope.names []) (bindC (envOfC qual scope s.heap.objs.size f cd).kindOf (ps.zip us) fun _=>none) s1) :
  Inv (z9R CX P w K mg base N qual scope f cd A outer s H E) [] (z4d N vs) H s1:=by
 have hpl : ps.length≤N.length:=by have:=congrArg List.length S.pre; rw [cH] at this; omega
 obtain ⟨h1,tk,rfl,hk⟩:=x.done
 have noA : ∀ b : Addr,b ∉ (z9R CX P w K mg base N qual scope f cd A outer s H E).ex:=fun b z=>absurd (show b∈([] : List Addr) from z) (by simp)
 refine ⟨⟨e0.mod,S.kind,rfl,rfl,ar _,fun y z c h1 h2=>?_,fun y hy=>?_,fun y c _ h=>?_,fun _=>hd,Around.frames_deeper e0.frames,.inr ⟨rfl,rfl⟩,fun b z=>absurd z (noA b),e0.bs,e0.bsz,fun b _ _=>noA b,fun b z=>absurd z (noA b),e0.funs,e0.frf⟩,
  rfl,e0.bare,Un.kept hk,⟨_,x.toInCall.ns,fun i y v h1 h2 h3=>?_⟩,fun y c h=>⟨_,x.cell y c h⟩,e0.hok.fresh (ar _),fun y c h=>?_,fun p hp=>absurd (show p∈([] : List (Addr × Obj)) from hp) (by simp),e0.hok.kept hk,?_⟩
 ·exact name_of_addr x.apart (PySem.mem_of_lookup h1) (PySem.mem_of_lookup h2)
 ·have hy : scope.names.lookup y=some .cell∨scope.names.lookup y=some .free:=hy
  rcases hy with hy | hy
  ·exact y1H hy
  ·exact absurd rfl (S.nofree _ (PySem.mem_of_lookup hy))
 ·exact cL (x.above y c (PySem.mem_of_lookup h))
 ·have hi : i < vs.length:=by
   unfold z4d at h2
   by_cases hi : i < vs.length
   ·exact hi
   ·rw [bv (by simpa using hi)] at h2
    rw [bI] at h2
    split at h2 <;> cases h2
  have ha : vs[i]? = some v:=by
   unfold z4d at h2
   rw [a9 (by simpa using hi),aN] at h2
   cases e : vs[i]? with
   | none=>rw [e] at h2; cases h2
   | some a=>rw [e] at h2; cases h2; rfl
  obtain ⟨u,hu,rv⟩:=r.get ha
  have hp : ps[i]? = some y:=by
   rw [← S.pre,List.getElem?_take_of_lt (by omega)]; exact h1
  have ndP : ps.Nodup:=by rw [← S.pre]; exact S.nd.sublist (List.take_sublist _ _)
  refine ⟨u,rv,?_⟩
  rcases S.par y (ez hp) with k | k
  ·exact .inl ⟨k,z9u ndP hp hu k⟩
  ·obtain ⟨c,e⟩:=y1H (n:=s.heap.objs.size + 1) k
   refine .inr ⟨.inl k,c,e,?_⟩
   have q:=x.cell y c e
   rw [z9o ndP hp hu (by show scope.names.lookup y≠_; rw [k]; decide)] at q
   exact q
 ·exact e0.hok.fresh (cL (x.above y c (PySem.mem_of_lookup h)))
 ·unfold z4d
  show _=N.length
  rw [aK,aq,d9]
  omega
theorem fn_of {CX : CXT} {P : Program} {w : World} {K : aa} {mg : Str->Option Value} {base : Heap} {k : Nat} {f : Addr} {name qual : Str} {params : Arguments} {body : List Stmt} {scope : Scope} {dV kV doc pm cdv ct oc : Value} {an od : Option Addr}
  {osl : Array (Option Value)} {N ps : List Str} {sp : Sp} (lk : K.lookup f=some ⟨oc,od,.func (aD name qual params body scope dV kV doc pm an cdv ct),osl⟩) (hcd : ay K cdv qual=true) (S : FnScope N ps scope)
  (len : ∀ vs H Q E,sp vs H Q E->vs.length=ps.length)
  (hbody : ∀ (A : Around) (outer : List Env) (s : Shared) (H : Hp) (vs : List V) (Q : VK) (E : XK),Room k (A.deeper (envOfC qual scope s.heap.objs.size f cdv))->sp vs H Q E →
   ∃ t,PSs (z9R CX P w K mg base N qual scope f cdv A outer s H E) body t∧t { nx:=fun _ H'=>Q .non H',rt:=Q } (z4d N vs) H) :
  FnOk P w K mg base CX (k + 1) f (aD name qual params body scope dV kV doc pm an cdv ct) ps sp:=by
 refine ⟨len,fun A outer s H args us vs Q E hr e0 hb r hsp=>?_⟩
 have hl:=len _ _ _ _ hsp
 have KX : K.In s.heap:=e0.mod.kin.keeps fun b o e=>(e0.bs b o e).1
 have lim : s.heap.NoLimit:=e0.mod.nolimit.keeps fun b o e=>(e0.bs b o e).1
 have hkind : ∀ y∈ps.zip us,scope.names.lookup y.1=some .local∨(scope.names.lookup y.1=some .cell∧((cellsFrom (s.heap.objs.size + 1) scope.names []).lookup y.1).isSome=true):=fun ⟨n,v⟩ hy=>by
  rcases S.par n (dm hy).1 with q | q
  ·exact .inl q
  ·exact .inr ⟨q,dF _ _ _ (.inl q)⟩
 refine codeAny_call_function hr.depth (KX _ _ lk) rfl S.co S.gen rfl (PySem.W.codeRec_of KX hcd) (hb _ _ _ _ ?_)
 refine wpAny_newFunctionEnv_cells S.kind hkind fun env he s1 x=>?_
 subst he
 refine ⟨lim.keeps x.toInCall.keep,codeAny_func ?_⟩
 obtain ⟨t,ht,hq⟩:=hbody A outer s H vs Q E (hr.deeper _) hsp
 have I : Inv (z9R CX P w K mg base N qual scope f cdv A outer s H E) [] (z4d N vs) H s1:=y4j S hr.hd e0 hl r x
 refine wpAny_mono (ht [] s1 (z4d N vs) H _ I hq) (fun fl s' hs=>?_) fun e s' hs=>hs
 have fin : ∀ {σ' : St} {H' : Hp} {v : V} {u : Value},Inv (z9R CX P w K mg base N qual scope f cdv A outer s H E) [] σ' H' s'->RelV v u->Q v H'->CE outer P w H s Q u s':=
  fun {σ' H' v u} J rv q=>⟨v,H',J.os,J.bare,J.base,J.hok,rv,q⟩
 cases fl with
 | ret u=>
  obtain ⟨v,σ',H',J,rv,q⟩:=hs
  exact fin J rv q
 | next=>
  obtain ⟨σ',H',J,q⟩:=hs
  exact fin (v:=V.non) (u:=Value.none) J rfl q
 | brk=>
  obtain ⟨_,_,_,q⟩:=hs
  exact False.elim q
 | cont=>
  obtain ⟨_,_,_,q⟩:=hs
  exact False.elim q
end L2
namespace L2
open PySem PySem.Spec PyProof.Rows
section
variable {X : Cx} {x : Str} {p pos : Pos} {e : Expr} {es : List Expr} {t : TA} {id T : String} {r : List V->Hp->VK->Prop}
noncomputable def tCB (r : List V->Hp->VK->Prop) (t : TA) : TE:=fun σ H Q=>t σ H fun vs H1=>r vs H1 Q
theorem z5P (hc : z5C X (.builtin id) r) (hg : Gl X x) (hm : X.mg x=none) (hv : bootBuiltins x=some (.builtin id)) (ha : PA X (e :: es) t) (hn : x ≠ "__name__" := by decide) (hdb : (x == ("__debug__" : Str))=false:=by decide)
  (he : starEach (e :: es) X.env=(false,eval e X.env) :: starEach es X.env:=by rfl) (hpl : (backTo pos (starEach es X.env)).any (·.1)=false:=by rfl) : PE X (.Call (.Name x p) (e :: es) [] pos) (tCB r t):=by
 intro pins s σ H Q I h
 refine wpAny_Call_Name_kw (z4H I hg hm hv ?_ hn hdb)
 exact PyProof.Rows.callWith_builtin1 (thn (ha pos pins s σ H _ I h) fun us s1 ⟨vs,H1,I1,r1,q1⟩=>hc pins s1 σ H1 vs us Q I1 r1 q1) he hpl
theorem y4O (hc : z5C X (.type T) r) (hg : Gl X x) (hm : X.mg x=none) (hv : bootBuiltins x=some (.type T)) (ha : PA X (e :: es) t) (hn : x ≠ "__name__" := by decide) (hdb : (x == ("__debug__" : Str))=false:=by decide)
  (he : starEach (e :: es) X.env=(false,eval e X.env) :: starEach es X.env:=by rfl) (hpl : (backTo pos (starEach es X.env)).any (·.1)=false:=by rfl) : PE X (.Call (.Name x p) (e :: es) [] pos) (tCB r t):=by
 intro pins s σ H Q I h
 refine wpAny_Call_Name_kw (z4H I hg hm hv ?_ hn hdb)
 exact PyProof.Rows.callWith_type1 (thn (ha pos pins s σ H _ I h) fun us s1 ⟨vs,H1,I1,r1,q1⟩=>hc pins s1 σ H1 vs us Q I1 r1 q1) he hpl
end
end L2
namespace HT
open PySem PyProof.Rows
section
open PySem.SeqAt
open PySem.AutoSeq1 (wpAny_loadPart')
open PySem.MeetsSeq PySem.MeetsSeq2 PySem.MeetsSeq3
end
section
variable {prog : Program} {w : World} {A : Around} {E : Value->Shared->Prop} {s : Shared}
noncomputable def sIx (n d : Nat) : Option Int->Nat
 | none=>d
 | some v=>if v < 0 then (v + (n : Int)).toNat else min v.toNat n
end
end HT
namespace L2
open PySem PySem.Spec PyProof.Rows
noncomputable abbrev TO:=St->Hp->(Option Int->Hp->Prop)->Prop
noncomputable def PO (X : Cx) (e : Option Expr) (t : TO) : Prop:=
 ∀ (pins : List (Addr × Obj)) (s : Shared) (σ : St) (H : Hp) (Q : Option Int->Hp->Prop),Inv X pins σ H s->t σ H Q →
  wpAny (model X.prog X.w) X.A (evalPart e X.env) (fun u s'=>∃ o H',Inv X pins σ H' s'∧IsPart u o∧Q o H') X.xe s
noncomputable def tNoPart : TO:=fun _ H Q=>Q none H
noncomputable def tPart (t : TE) : TO:=fun σ H Q=>t σ H fun x H1=>∃ i,x = .int i∧Q (some i) H1
theorem y2v {ns : List Int} : ∀ {us : List Value},Vals (ns.map V.int) us->IntsAre us ns:=by
 induction ns with
 | nil=>intro us r; rw [cY] at r; cases r; exact .nil
 | cons n ns ih=>
  intro us r
  rw [aT] at r
  cases r with
  | cons r1 r2=>
   obtain ⟨t,e⟩:=r1
   subst e
   exact .cons n t (ih r2)
section
variable {X : Cx} {e : Expr} {te : TE} {lo hi : Option Expr} {tl th : TO} {pos p2 : Pos}
theorem po_none : PO X none tNoPart:=by
 intro pins s σ H Q I h
 rw [evalPart_none]
 exact wpAny_pure ⟨none,H,I,.none,h⟩
theorem po_some (h : PE X e te) : PO X (some e) (tPart te):=by
 intro pins s σ H Q I hw
 rw [evalPart_some]
 refine thn (h pins s σ H _ I hw) fun u s1 ⟨x,H1,I1,r1,q1⟩=>?_
 obtain ⟨i,rfl,q⟩:=q1
 obtain ⟨t,rfl⟩:=r1
 exact ⟨some i,H1,I1,.int i t,q⟩
noncomputable def SlR (X : Cx) (r : V->Option Int->Option Int->Hp->VK->Prop) : Prop:=
 ∀ (pins : List (Addr × Obj)) (s : Shared) (σ : St) (H : Hp) (x : V) (v vl vu : Value) (lo hi : Option Int) (sl : Addr) (Q : VK),Inv X pins σ H s->RelV x v->s.heap.IsSliceOf sl vl vu .none->IsPart vl lo->IsPart vu hi->r x lo hi H Q →
  ∃ T id,typeLookup (.type T) "__getitem__" = pure (some (.builtin id))∧s.TypeIs v T∧wpAny (model X.prog X.w) X.A (getItem v (.ref sl)) (EP X pins σ Q) X.xe s
noncomputable def tSl (r : V->Option Int->Option Int->Hp->VK->Prop) (te : TE) (tl th : TO) : TE:=fun σ H Q=>te σ H fun x H1=>tl σ H1 fun l H2=>th σ H2 fun u H3=>r x l u H3 Q
theorem y6C {r : V->Option Int->Option Int->Hp->VK->Prop} (hr : SlR X r) (he : PE X e te) (hl : PO X lo tl) (hu : PO X hi th) : PE X (.Subscript e (.Slice lo hi none p2) pos) (tSl r te tl th):=by
 intro pins s σ H Q I h
 refine Subscript_ (thn (he pins s σ H _ I h) fun v s1 ⟨x,H1,I1,r1,q1⟩=>?_)
 refine wpAny_Slice (thn (hl pins s1 σ H1 _ I1 q1) fun vl s2 ⟨l,H2,I2,pl,q2⟩=>thn (hu pins s2 σ H2 _ I2 q2) fun vu s3 ⟨u,H3,I3,pu,q3⟩=>?_)
 rw [evalPart_none]
 refine wpAny_pure ?_
 have I4 : Inv X pins σ H3 { s3 with heap:=s3.heap.push { cls:=.type "slice",data:=.fields #[vl,vu,.none] } }:=I3.kept (t':=s3.toks) fun b ob q=>Heap.get?_push_of_some _ q
 obtain ⟨T,id,hT,ht,hg⟩:=hr pins { s3 with heap:=s3.heap.push { cls:=.type "slice",data:=.fields #[vl,vu,.none] } } σ H3 x v vl vu l u s3.heap.objs.size Q I4 r1 (Heap.IsSliceOf.new ..) pl pu q3
 show wpAny (model X.prog X.w) X.A (subscriptTail e (.Slice lo hi none p2) v (.ref s3.heap.objs.size)) (EP X pins σ Q) X.xe { s3 with heap:=s3.heap.push { cls:=.type "slice",data:=.fields #[vl,vu,.none] } }
 exact tail_any (ops:=[.ref s3.heap.objs.size,v]) ht hT hg (by with_unfolding_all rfl)
noncomputable def cutV (xs : List V) (lo hi : Option Int) : List V:=(xs.drop (HT.sIx xs.length 0 lo)).take (HT.sIx xs.length xs.length hi - HT.sIx xs.length 0 lo)
theorem y0F (xs : List V) (lo hi : Option Int) : (cutV xs lo hi).length≤xs.length:=by
 unfold cutV
 rw [cH,dc]
 omega
end
end L2
namespace L2
open PySem PySem.Spec PyProof.Rows
noncomputable def ixN (n : Nat) (i : Int) : Option Nat:=if 0≤i then (if i < n then some i.toNat else none) else if -(n : Int)≤i then some (i + n).toNat else none
noncomputable def atI {α : Type} (xs : List α) (i : Int) : Option α:=(ixN xs.length i).bind fun j=>xs[j]?
theorem y3Y {n : Nat} {i : Int} {j : Nat} (h : ixN n i=some j) : seqIndex? i n=some j∧j < n∧-(n : Int)≤i∧i < n:=by
 unfold ixN at h
 by_cases h0 : 0≤i
 ·rw [if_pos h0] at h
  by_cases h1 : i < n
  ·rw [if_pos h1] at h
   have e : i.toNat=j:=Option.some.inj h
   exact ⟨by rw [seqIndex_of h0 h1,e],by omega,by omega,h1⟩
  ·rw [if_neg h1] at h; cases h
 ·rw [if_neg h0] at h
  by_cases h1 : -(n : Int)≤i
  ·rw [if_pos h1] at h
   have e : (i + n).toNat=j:=Option.some.inj h
   exact ⟨by rw [seqIndex_neg (by omega) h1,e],by omega,h1,by omega⟩
  ·rw [if_neg h1] at h; cases h
theorem y0Y {α : Type} {xs : List α} {i : Int} {v : α} (h : atI xs i=some v) : ∃ j,seqIndex? i xs.length=some j∧xs[j]? = some v∧j < xs.length∧-(xs.length : Int)≤i∧i < xs.length:=by
 unfold atI at h
 cases e : ixN xs.length i with
 | none=>rw [e] at h; cases h
 | some j=>
  rw [e] at h
  obtain ⟨h1,h2,h3,h4⟩:=y3Y e
  exact ⟨j,h1,h,h2,h3,h4⟩
theorem z8z {α : Type} {xs : List α} {j : Nat} {v : α} (h : xs[j]? = some v) : atI xs (j : Int)=some v:=by
 have hj : j < xs.length:=(a7.mp h).1
 have e : ixN xs.length (j : Int)=some j:=by
  unfold ixN
  rw [if_pos (by omega),if_pos (by omega)]; simp
 unfold atI; rw [e]; exact h
noncomputable def y0e (b : Expr) : Prop:=∀ o i,subscripted b false o i=operate [o,i] (getItem o i)
noncomputable def IxR (X : Cx) (r : R2) : Prop:=
 ∀ (value slice : Expr) (pins : List (Addr × Obj)) (s : Shared) (σ : St) (H : Hp) (x y : V) (v u : Value) (Q : VK),Inv X pins σ H s->RelV x v->RelV y u->r x y H Q →
  subscripted slice false v u=operate [v,u] (getItem v u)->wpAny (model X.prog X.w) X.A (subscriptTail value slice v u) (EP X pins σ Q) X.xe s
noncomputable def MtR (X : Cx) (id : String) (r : V->List V->Hp->VK->Prop) : Prop:=
 ∀ (pins : List (Addr × Obj)) (s : Shared) (σ : St) (H : Hp) (x : V) (xs : List V) (v : Value) (us : List Value) (Q : VK),Inv X pins σ H s->RelV x v->Vals xs us->r x xs H Q →
  wpAny (model X.prog X.w) X.A (call (.builtin id) (v :: us)) (EP X pins σ Q) X.xe s
section
variable {X : Cx} {a b : Expr} {ta tb : TE} {pos : Pos}
theorem IxR.or {r r' : R2} (h : IxR X r) (h' : IxR X r') : IxR X (fun x y H Q=>r x y H Q∨r' x y H Q):=by
 intro value slice pins s σ H x y v u Q I rx ry q hs
 rcases q with q | q
 ·exact h value slice pins s σ H x y v u Q I rx ry q hs
 ·exact h' value slice pins s σ H x y v u Q I rx ry q hs
theorem pe_ix {r : R2} (hr : IxR X r) (ha : PE X a ta) (hb : PE X b tb) (hs : y0e b) : PE X (.Subscript a b pos) (tOp r ta tb):=by
 intro pins s σ H Q I h
 exact Subscript_ (binT ha hb I h fun v u s2 x y H2 I2 rx ry q=>hr a b pins s2 σ H2 x y v u Q I2 rx ry q (hs _ _))
noncomputable def rIxL (K : aa) : R2:=fun x y H Q=>∃ p xs i v,x = .ref p∧y = .int i∧SqL K H p xs∧atI xs i=some v∧Q v H
noncomputable def rIxT (K : aa) : R2:=fun x y H Q=>∃ p xs i v,x = .ref p∧y = .int i∧SqT K H p xs∧atI xs i=some v∧Q v H
noncomputable def rIxS : R2:=fun x y H Q=>∃ z i c,x = .str z∧y = .int i∧z.length≤sizeLine∧atI z.cps.toList i=some c∧Q (.str ⟨#[c]⟩) H
theorem ix_list : IxR X (rIxL X.K):=by
 intro value slice pins s σ H x y v u Q I rx ry h hs
 obtain ⟨p,xs,i,z,rfl,rfl,hq,he,q⟩:=h
 cases rx
 obtain ⟨t,rfl⟩:=ry
 obtain ⟨its,r,pl,hz⟩:=I.list hq
 obtain ⟨j,h1,h2,h3,h4,h5⟩:=y0Y he
 obtain ⟨w,ew,rw'⟩:=r.get h2
 have hl:=r.length
 have hn:=z7f
 have fin : EP X pins σ Q w s:=⟨z,H,I,rw',q⟩
 by_cases h0 : 0≤i
 ·have hj : i.toNat=j:=by
   rw [seqIndex_of h0 h5] at h1
   exact Option.some.inj h1
  exact item_listR pl.isList h0 (by omega) (by rw [hj]; simpa using ew) fin hs
 ·have hj : (i + (its.toArray.size : Int)).toNat=j:=by
   rw [seqIndex_neg (by omega) h4] at h1
   rw [aE,← hl]
   exact Option.some.inj h1
  exact subscriptTail_builtinR (x:=w) pl.isList.typeIs slot_list_getitem.lookup
   (wpAny_getItem_list_neg (Q:=fun r s'=>r=w∧EP X pins σ Q r s') pl.isList (by omega) (by rw [aE] <;> omega) (by omega) (by rw [hj]; simpa using ew) ⟨rfl,fin⟩) hs
theorem ix_tup : IxR X (rIxT X.K):=by
 intro value slice pins s σ H x y v u Q I rx ry h hs
 obtain ⟨p,xs,i,z,rfl,rfl,hq,he,q⟩:=h
 cases rx
 obtain ⟨t,rfl⟩:=ry
 obtain ⟨its,r,pl,hz⟩:=I.tuple hq
 obtain ⟨j,h1,h2,h3,h4,h5⟩:=y0Y he
 obtain ⟨w,ew,rw'⟩:=r.get h2
 have hl:=r.length
 have hn:=z7f
 have fin : EP X pins σ Q w s:=⟨z,H,I,rw',q⟩
 exact subscriptTail_builtinR (x:=w) pl.typeIs slot_tuple_getitem.lookup
  (getItem_tuple (j:=j) (Q:=fun r s'=>r=w∧EP X pins σ Q r s') pl (by omega) (by omega) (by rw [aE,← hl]; exact h1) (by simpa using ew) ⟨rfl,fin⟩) hs
theorem ix_str : IxR X rIxS:=by
 intro value slice pins s σ H x y v u Q I rx ry h hs
 obtain ⟨z,i,c,rfl,rfl,hz,he,q⟩:=h
 obtain ⟨t,rfl⟩:=rx
 obtain ⟨t',rfl⟩:=ry
 obtain ⟨j,h1,h2,h3,h4,h5⟩:=y0Y he
 have hl : z.cps.toList.length=z.length:=by simp [Str.length]
 rw [hl] at h1 h4 h5
 have hn:=z7f
 exact tail_any (typeIs_str s z t) slot_str_getitem.lookup (getItem_str (c:=c) (by
  have e1 : decide (i < -(2 ^ 63 : Int))=false:=decide_eq_false (by omega)
  have e2 : decide (i ≥ 2 ^ 63)=false:=decide_eq_false (by omega)
  rw [e1,e2,Bool.or_false]) (by rw [h1]; simpa using h2) ⟨.str ⟨#[c]⟩,H,I.tok _,⟨_,rfl⟩,q⟩) hs
noncomputable def rIx (K : aa) : R2:=fun x y H Q=>rIxL K x y H Q∨rIxT K x y H Q∨rIxS x y H Q
theorem ix_seq : IxR X (rIx X.K):=ix_list.or (ix_tup.or ix_str)
theorem y2e (its : List Value) (n j : Nat) (u : Value) : Obj.mapSeq (·.setIfInBounds j u) { cls:=.type "list",data:=.seq its.toArray n } = { cls:=.type "list",data:=.seq (its.set j u).toArray n }:=by
 simp [Obj.mapSeq]
theorem Inv.lst {pins : List (Addr × Obj)} {σ : St} {H : Hp} {s : Shared} {p : Addr} {xs : List V} (I : Inv X pins σ H s) (h : H p=some (.lst xs)) :
  ∃ (its : List Value) (n : Nat),Vals xs its∧s.heap.get? p=some { cls:=.type "list",data:=.seq its.toArray n }∧xs.length≤sizeLine:=by
 obtain ⟨z,its,n,r,e⟩:=I.hok p _ h
 exact ⟨its,n,r,e,z⟩
theorem Inv.lstUpd {pins : List (Addr × Obj)} {σ : St} {H : Hp} {s : Shared} {p : Addr} {xs ys : List V} {its its' : List Value} {n n' : Nat} {f : Obj->Obj} (I : Inv X pins σ H s) (h : H p=some (.lst xs))
  (ho : s.heap.get? p=some { cls:=.type "list",data:=.seq its.toArray n }) (hf : f { cls:=.type "list",data:=.seq its.toArray n } = { cls:=.type "list",data:=.seq its'.toArray n' }) (r : Vals ys its') (hz : ys.length≤sizeLine) (t : Nat) :
  Inv X pins σ (upd H p (.lst ys)) { s with heap:=s.heap.update p f,toks:=t }:=by
 have e : (s.heap.update p f).get? p=some { cls:=.type "list",data:=.seq its'.toArray n' }:=by
  rw [Heap.get?_update_self f ho (by rw [hf] <;> rfl),hf]
 refine I.write (x:=p) (e:=p) (by rw [h]; trivial) (.inl rfl) (fun b u hb q=>(Heap.get?_update_other _ _ (Ne.symm hb)).trans q) ⟨_,e⟩ ?_
 exact ⟨hz,its',n',r,e⟩
noncomputable def rSetL : V->V->V->Hp->(Hp->Prop)->Prop:=fun o i v H Q=>∃ p xs k j,o = .ref p∧i = .int k∧H p=some (.lst xs)∧ixN xs.length k=some j∧Q (upd H p (.lst (xs.set j v)))
theorem y1T : PSet X rSetL:=by
 intro pins s σ H o i v ov iv u Q I ro ri rv h
 obtain ⟨p,xs,k,j,rfl,rfl,hp,hj,q⟩:=h
 cases ro
 obtain ⟨t,rfl⟩:=ri
 obtain ⟨its,n,r,ho,hz⟩:=I.lst hp
 obtain ⟨h1,h2,h3,h4⟩:=y3Y hj
 have hl:=r.length
 have hn:=z7f
 have I' : Inv X pins σ (upd H p (.lst (xs.set j v))) { s with heap:=s.heap.update p (Obj.mapSeq (·.setIfInBounds j u)) }:=
  I.lstUpd hp ho (y2e its n j u) (r.set rv j) (by rw [cM]; exact hz) s.toks
 by_cases h0 : 0≤k
 ·have hk : k.toNat=j:=by
   rw [seqIndex_of h0 h4] at h1
   exact Option.some.inj h1
  exact PySem.W.ki_setAt ho h0 (by omega) (by rw [aE,← hl]; exact h4) (by rw [hk]; exact ⟨_,I',q⟩)
 ·have hk : (k + (its.toArray.size : Int)).toNat=j:=by
   rw [seqIndex_neg (by omega) h3] at h1
   rw [aE,← hl]
   exact Option.some.inj h1
  exact PySem.W.ki_setBack ho (by omega) (by rw [aE,← hl]; exact h3) (by omega) (by rw [hk]; exact ⟨_,I',q⟩)
theorem y8F (i : Int) (n d : Nat) : max 0 (min (if i < 0 then i + (n : Int) else i) (n : Int))=((HT.sIx n d (some i) : Nat) : Int):=by
 show max 0 (min (if i < 0 then i + (n : Int) else i) (n : Int))=(((if i < 0 then (i + (n : Int)).toNat else min i.toNat n) : Nat) : Int)
 by_cases h : i < 0
 ·simp only [h,if_true]; omega
 ·simp only [h,if_false]; omega
theorem z9s (lo hi : Option Int) (n : Nat) : (sliceBounds lo hi none n).1=((HT.sIx n 0 lo : Nat) : Int)∧(sliceBounds lo hi none n).2.1=((HT.sIx n n hi : Nat) : Int)∧(sliceBounds lo hi none n).2.2=1:=by
 refine ⟨?_,?_,rfl⟩
 ·cases lo with
  | none=>simp [sliceBounds,HT.sIx]
  | some i=>
   simp only [sliceBounds,eG,show (1 : Int) > 0 by decide,if_true]
   exact y8F i n 0
 ·cases hi with
  | none=>simp [sliceBounds,HT.sIx]
  | some i=>
   simp only [sliceBounds,eG,show (1 : Int) > 0 by decide,if_true]
   exact y8F i n n
theorem z7K (its : List Value) (lo hi : Option Int) : slicePick its.toArray lo hi none=((its.drop (HT.sIx its.length 0 lo)).take (HT.sIx its.length its.length hi - HT.sIx its.length 0 lo)).toArray:=by
 obtain ⟨h1,h2,h3⟩:=z9s lo hi its.toArray.size
 unfold slicePick
 rw [h1,h2,h3]
 simp only [sliceRange_one,pick_run,aE] <;> rfl
noncomputable def rSlL (K : aa) : V->Option Int->Option Int->Hp->VK->Prop:=fun x lo hi H Q=>∃ a xs,x = .ref a∧SqL K H a xs∧∀ p,H p=none->Q (.ref p) (upd H p (.lst (cutV xs lo hi)))
theorem sl_list : SlR X (rSlL X.K):=by
 intro pins s σ H x v vl vu lo hi sl Q I rx hs pl pu h
 obtain ⟨a,xs,rfl,hx,q⟩:=h
 cases rx
 obtain ⟨its,r,ht,hz⟩:=I.list hx
 have hlen:=r.length
 refine ⟨"list",_,slot_list_getitem.lookup,ht.isList.typeIs,?_⟩
 refine wpAny_getItem_list_slice ht.isList hs pl pu .none (by simp) ?_ (by rw [aE] <;> omega)
 rw [z7K,← hlen]
 refine ⟨.ref s.heap.objs.size,_,I.laid (t':=s.toks) (o:=.lst (cutV xs lo hi)) (fun b ob q=>Heap.get?_push_of_some _ q) (ar _) ?_,rfl,q _ (I.hok.fresh (ar _))⟩
 exact ⟨aQ (y0F xs lo hi) hz,_,0,(r.drop (HT.sIx xs.length 0 lo)).take (HT.sIx xs.length xs.length hi - HT.sIx xs.length 0 lo),Heap.get?_push_size _ rfl⟩
theorem z9L : z5C X (.type "list") (fun xs H Q=>∃ p ys,xs=[.ref p]∧(SqL X.K H p ys∨SqT X.K H p ys)∧∀ l,H l=none->Q (.ref l) (upd H l (.lst ys))):=by
 intro pins s σ H xs us Q I r h
 obtain ⟨p,ys,rfl,hq,q⟩:=h
 obtain ⟨u,rfl,rx⟩:=y2F r
 cases rx
 have fin : ∀ (its : List Value),Vals ys its->ys.length≤sizeLine->∀ (h' : Heap) (c' : Nat),(∀ b o',s.heap.get? b=some o'->h'.get? b=some o') →
   h'.get? s.heap.objs.size=some { cls:=.type "list",dict:=none,data:=.seq its.toArray c',slots:=#[] }->EP X pins σ Q (.ref s.heap.objs.size) { s with heap:=h' }:=fun its r' hz h' c' kp e=>
  ⟨.ref s.heap.objs.size,_,I.laid (t':=s.toks) kp (ar _) (show ObjOk X.prog X.w _ h' _ (.lst ys) from ⟨hz,its,c',r',e⟩),rfl,q _ (I.hok.fresh (ar _))⟩
 rcases hq with hq | hq
 ·obtain ⟨its,r',pl,hz⟩:=I.list hq
  have hlen:=r'.length
  obtain ⟨o,ho,hc,n,hd⟩:=pl.isList
  exact call_list_seq p (.inl rfl) ho hc hd (fun h' c' kp e=>fin its r' hz h' c' kp e) (by simp only [aE] <;> omega)
 ·obtain ⟨its,r',pl,hz⟩:=I.tuple hq
  have hlen:=r'.length
  obtain ⟨o,ho,hc,n,hd⟩:=pl
  exact call_list_seq p (.inr rfl) ho hc hd (fun h' c' kp e=>fin its r' hz h' c' kp e) (by simp only [aE] <;> omega)
noncomputable def tyV (K : aa) (T : String) (x : V) (H : Hp) : Prop:=match x with
 | .str _=>T = "str"
 | .int _=>T = "int"
 | .ref p=>(T = "list" ∧ ∃ xs,SqL K H p xs)∨(T = "tuple" ∧ ∃ o,K.lookup p=some o∧o.cls = .type "tuple" ∧ o.dict=none) ∨
   (T = "dict" ∧ ((∃ kvs,H p=some (.dK kvs))∨∃ kvs,H p=some (.dT kvs)))∨(T = "set" ∧ ∃ S n,H p=some (.set S n))
 | _=>False
theorem tyV_is {pins : List (Addr × Obj)} {σ : St} {H : Hp} {s : Shared} {T : String} {x : V} {v : Value} (I : Inv X pins σ H s) (r : RelV x v) (ty : tyV X.K T x H) :
  s.TypeIs v T∧∀ a,v = .ref a->∃ ob,s.heap.get? a=some ob∧ob.dict=none:=by
 cases x with
 | str z=>
  obtain ⟨t,rfl⟩:=r
  cases (show T = "str" from ty)
  exact ⟨typeIs_str s z t,fun _ e=>nomatch e⟩
 | int i=>
  obtain ⟨t,rfl⟩:=r
  cases (show T = "int" from ty)
  exact ⟨typeIs_int s i t,fun _ e=>nomatch e⟩
 | ref p=>
  cases r
  rcases ty with ⟨rfl,xs,hq⟩ | ⟨rfl,o,hk,hc,hd⟩ | ⟨rfl,hk⟩ | ⟨rfl,S,n,hk⟩
  ·obtain ⟨its,_,pl,_⟩:=I.list hq
   refine ⟨pl.isList.typeIs,fun a e=>?_⟩
   cases e
   obtain ⟨o,n,e,c,hd,_⟩:=pl
   exact ⟨o,e,hd⟩
  ·refine ⟨⟨o,I.kIn p o hk,hc⟩,fun a e=>?_⟩
   cases e
   exact ⟨o,I.kIn _ o hk,hd⟩
  ·have z : ∃ o,s.heap.get? p=some o∧o.ExactDict:=by
    rcases hk with ⟨kvs,hk⟩ | ⟨kvs,hk⟩
    ·obtain ⟨_,_,_,_,o,_,_,e,ex,_⟩:=I.hok p _ hk
     exact ⟨o,e,ex⟩
    ·obtain ⟨_,_,_,_,o,_,_,e,ex,_⟩:=I.hok p _ hk
     exact ⟨o,e,ex⟩
   obtain ⟨o,e,ex⟩:=z
   refine ⟨⟨o,e,ex.1⟩,fun a e2=>?_⟩
   cases e2
   exact ⟨o,e,ex.2.1⟩
  ·obtain ⟨o,_,_,_,e,ex,_⟩:=I.hok p _ hk
   refine ⟨⟨o,e,ex.1⟩,fun a e2=>?_⟩
   cases e2
   exact ⟨o,e,ex.2.1⟩
 | _=>exact False.elim ty
noncomputable def tBM (K : aa) (T : String) (r : V->List V->Hp->VK->Prop) (to : TE) (t : TA) : TE:=fun σ H Q=>to σ H fun x H1=>tyV K T x H1∧t σ H1 fun xs H2=>r x xs H2 Q
variable {o e : Expr} {es : List Expr} {to : TE} {t : TA} {name : Str} {apos cpos : Pos} {T id : String} {r : V->List V->Hp->VK->Prop}
theorem y3p (pa : PlainAttrs T) (slot : Slot T name id) (hty : typeOf (.builtin id)=pure (.type "method_descriptor")) (hm : MtR X id r) (ho : PE X o to) (ha : PA X (e :: es) t)
  (hbase : attributeBase o name X.env (eval o X.env)=eval o X.env:=by rfl)
  (hfew : ((backTo cpos (starEach (e :: es) X.env)).all (fun x=>!x.1) && (backToKw cpos (keywordEach [] X.env)).all (fun x=>x.1.isSome)
   && decide ((e :: es).length + ([] : List Keyword).length + (if ([] : List Keyword).isEmpty then 0 else 1) < 30))=true:=by rfl)
  (hline : (apos.endLine == cpos.line)=true:=by rfl) (hs : starEach (e :: es) X.env=(false,eval e X.env) :: starEach es X.env:=by rfl) (hplain : (backTo cpos (starEach es X.env)).any (·.1)=false:=by rfl) :
  PE X (.Call (.Attribute o name apos) (e :: es) [] cpos) (tBM X.K T r to t):=by
 intro pins s σ H Q I h
 refine wpAny_Call_method_late hbase hfew hline rfl (thn (ho pins s σ H _ I h) fun v s1 ⟨x,H1,I1,r1,ty,q1⟩=>?_)
 obtain ⟨h1,h2⟩:=tyV_is I1 r1 ty
 refine ⟨T,id,pa,slot,hty,h1,h2,?_⟩
 have hA:=ha cpos pins s1 σ H1 _ I1 q1
 rw [hs] at hA ⊢
 refine Calls.callWith_builtin (by show (false || (backTo cpos (starEach es X.env)).any (·.1))=false; rw [hplain] <;> rfl) (Calls.evalArgs_plain ?_)
 exact thn hA fun us s2 ⟨vs,H2,I2,r2,q2⟩=>hm pins s2 σ H2 x vs v us Q I2 r1 r2 q2
end
end L2
namespace L2
open PySem PySem.Spec PyProof.Rows
noncomputable def MtM (X : Cx) (id : String) (r : V->List V->Hp->VK->Prop) : Prop:=
 ∀ (pins : List (Addr × Obj)) (s : Shared) (σ : St) (H : Hp) (x : V) (xs : List V) (v : Value) (us : List Value) (Q : VK),Inv X pins σ H s->RelV x v->Vals xs us->r x xs H Q →
  wpAny (model X.prog X.w) X.A (call (.builtin id) (v :: us)) (EP X pins σ Q) X.xe s
theorem Vals.one : ∀ {x : V} {us : List Value},Vals [x] us->∃ u,us=[u]∧RelV x u:=fun h=>by
 cases h with | cons r h=>cases h; exact ⟨_,rfl,r⟩
theorem Vals.two : ∀ {x y : V} {us : List Value},Vals [x,y] us->∃ u v,us=[u,v]∧RelV x u∧RelV y v:=fun h=>by
 cases h with | cons r h=>obtain ⟨_,rfl,q⟩:=Vals.one h; exact ⟨_,_,rfl,r,q⟩
theorem Vals.rep {xs : List V} {us : List Value} (h : Vals xs us) : ∀ k : Nat,Vals (aj k xs).flatten (aj k us).flatten
 | 0=>.nil
 | k + 1=>by
  rw [bn,bn,bx,bx]
  exact Vals.append h (Vals.rep h k)
theorem z9v (its : List Value) : ∀ (k : Nat) (acc : List Value),
  eK (fun x1 x2=>x1 ++ x2) acc.toArray (aj k its.toArray)=(acc ++ (aj k its).flatten).toArray
 | 0,acc=>by simp
 | k + 1,acc=>by
  have e : acc.toArray ++ its.toArray=(acc ++ its).toArray:=by simp
  have e2 : (acc ++ its) ++ (aj k its).flatten=acc ++ (aj (k + 1) its).flatten:=by
   rw [bn,bx,aZ]
  rw [← e2,← z9v its k (acc ++ its),← e,bn,List.foldl_cons]
section
variable {X : Cx} {pins : List (Addr × Obj)} {σ : St} {H : Hp} {s : Shared} {l b : Addr} {xs ys zs : List V}
theorem Inv.lset {its its' : List Value} {n : Nat} {f : Array Value->Array Value} {t' : Nat} (I : Inv X pins σ H s) (hH : H l=some (.lst xs))
  (e : s.heap.get? l=some { cls:=.type "list",data:=.seq its.toArray n }) (hf : f its.toArray=its'.toArray) (hv : Vals ys its') (hz : ys.length≤sizeLine) :
  Inv X pins σ (upd H l (.lst ys)) { s with heap:=s.heap.update l (Obj.mapSeq f),toks:=t' }:=by
 have q:=PySem.IsL.update e f
 rw [hf] at q
 refine I.write (x:=l) (e:=l) (by rw [hH]; exact trivial) (.inl rfl) (fun b' u hb hu=>(Heap.get?_update_other s.heap (Obj.mapSeq f) (Ne.symm hb)).trans hu) ⟨_,q⟩ ?_
 exact ⟨hz,its',_,hv,q⟩
theorem Inv.lnew {its : List Value} {t' : Nat} (I : Inv X pins σ H s) (hv : Vals ys its) (hz : ys.length≤sizeLine) :
  Inv X pins σ (upd H s.heap.objs.size (.lst ys)) { s with heap:=s.heap.push { cls:=.type "list",data:=.seq its.toArray },toks:=t' }:=
 I.laid (fun _ _ q=>Heap.get?_push_of_some _ q) (ar _) ⟨hz,its,0,hv,Heap.get?_push_size _ rfl⟩
theorem Inv.fresh (I : Inv X pins σ H s) : H s.heap.objs.size=none:=I.hok.fresh (ar _)
theorem Inv.lstM (I : Inv X pins σ H s) (hH : H l=some (.lst xs)) : xs.length≤sizeLine∧∃ (its : List Value) (n : Nat),Vals xs its∧xs.length=its.length∧s.heap.get? l=some { cls:=.type "list",data:=.seq its.toArray n }:=by
 obtain ⟨z,its,n,r,e⟩:=I.hok l _ hH
 exact ⟨z,its,n,r,r.length,e⟩
theorem y1i {n : Nat} (h : n≤sizeLine) : Builtin.List.listTooLong n=false:=by
 unfold Builtin.List.listTooLong
 exact decide_eq_false (by omega)
end
section
variable {X : Cx}
noncomputable def z8u : V->List V->Hp->VK->Prop:=fun x vs H Q=>∃ l xs y,x = .ref l∧vs=[y]∧H l=some (.lst xs)∧xs.length < sizeLine∧Q .non (upd H l (.lst (xs ++ [y])))
theorem z4T : MtM X "list.append" z8u:=by
 intro pins s σ H x vs v us Q I rx rv h
 obtain ⟨l,xs,y,rfl,rfl,hH,hz,q⟩:=h
 cases rx
 obtain ⟨u,rfl,ru⟩:=rv.one
 obtain ⟨z,its,n,r,hl,e⟩:=I.lstM hH
 refine call_meets F.slot_list_append ⟨_,e,rfl⟩ F.entry_list_append (F.args_list_append_2 _ _) (PySem.list_append l its.toArray n u (by rw [aE]; omega)) ⟨e,?_⟩
 refine ⟨.non,_,I.lset (its':=its ++ [u]) hH e (by simp) (r.append (.cons ru .nil)) ?_,rfl,q⟩
 rw [aK,cN]
 omega
noncomputable def rExtend : V->List V->Hp->VK->Prop:=fun x vs H Q=>∃ l b xs zs,x = .ref l∧vs=[.ref b]∧H l=some (.lst xs)∧H b=some (.lst zs)∧xs.length + zs.length≤sizeLine∧Q .non (upd H l (.lst (xs ++ zs)))
theorem z9x : MtM X "list.extend" rExtend:=by
 intro pins s σ H x vs v us Q I rx rv h
 obtain ⟨l,b,xs,zs,rfl,rfl,hH,hB,hz,q⟩:=h
 cases rx
 obtain ⟨u,rfl,ru⟩:=rv.one
 cases ru
 obtain ⟨z,its,n,r,hl,e⟩:=I.lstM hH
 obtain ⟨z2,its2,n2,r2,hl2,e2⟩:=I.lstM hB
 have hsz : its.toArray.size + its2.toArray.size≤sizeLine:=by rw [aE,aE]; omega
 have hlong : ¬ (!its.toArray.isEmpty && Builtin.List.listTooLong (its.toArray.size + its2.toArray.size))=true:=by
  rw [y1i hsz,dE]
  exact ao
 refine call_meets F.slot_list_extend ⟨_,e,rfl⟩ F.entry_list_extend (F.args_list_extend_2 _ _)
  (AutoSeq1.list_extend_list_list_0 l its.toArray n b its2.toArray n2 hlong (by rw [aE]; omega) (by omega)) ⟨e,e2,?_⟩
 refine ⟨.non,_,I.lset (its':=its ++ its2) hH e (by simp) (r.append r2) ?_,rfl,q⟩
 rw [aK]
 omega
noncomputable def rCat : R2:=fun x y H Q=>∃ l b xs zs,x = .ref l∧y = .ref b∧H l=some (.lst xs)∧H b=some (.lst zs)∧xs.length + zs.length≤sizeLine∧∀ p,H p=none->Q (.ref p) (upd H p (.lst (xs ++ zs)))
theorem op_cat : OpR X (binaryOp .Add) rCat:=by
 intro pins s σ H x y v u Q I rx ry h
 obtain ⟨l,b,xs,zs,rfl,rfl,hH,hB,hz,q⟩:=h
 cases rx
 cases ry
 obtain ⟨z,its,n,r,hl,e⟩:=I.lstM hH
 obtain ⟨z2,its2,n2,r2,hl2,e2⟩:=I.lstM hB
 refine PySem.P.add_list e e2 ?_ (by rw [aE,aE]; omega)
 have ea : its.toArray ++ its2.toArray=(its ++ its2).toArray:=by simp
 rw [ea]
 exact ⟨.ref _,_,I.lnew (t':=s.toks) (r.append r2) (by rw [aK]; omega),rfl,q _ I.fresh⟩
noncomputable def rRep : R2:=fun x y H Q=>∃ l k xs,x = .ref l∧y = .int k∧H l=some (.lst xs)∧-(2 ^ 63)≤k∧k < 2 ^ 63∧xs.length * k.toNat≤sizeLine ∧
 ∀ p,H p=none->Q (.ref p) (upd H p (.lst (aj k.toNat xs).flatten))
theorem len_rep {α : Type} (xs : List α) (k : Nat) : (aj k xs).flatten.length=k * xs.length:=by
 induction k with
 | zero=>simp
 | succ k ih=>rw [bn,bx,aK,ih,Nat.succ_mul,Nat.add_comm]
theorem op_rep : OpR X (binaryOp .Mult) rRep:=by
 intro pins s σ H x y v u Q I rx ry h
 obtain ⟨l,k,xs,rfl,rfl,hH,h1,h2,hz,q⟩:=h
 cases rx
 obtain ⟨t,rfl⟩:=ry
 obtain ⟨z,its,n,r,hl,e⟩:=I.lstM hH
 have hlen : its.toArray.size * k.toNat≤sizeLine:=by rw [aE,← hl]; exact hz
 have hcap : ¬ its.toArray.size * k.toNat > (2 ^ 63 - 1) / 8:=by
  have : (sizeLine : Nat)≤(2 ^ 63 - 1) / 8:=by decide
  omega
 have hfit : ¬ (!Builtin.List.listFitsIndex k)=true:=by
  rw [fitsIndex_both h1 h2]
  exact ao
 have hlong : ¬ Builtin.List.listTooLong (its.toArray.size * k.toNat)=true:=by
  rw [y1i hlen]
  exact ao
 have hnew : eK (fun x1 x2=>x1 ++ x2) #[] (aj (if its.toArray.isEmpty=true then 0 else k.toNat) its.toArray)=(aj k.toNat its).flatten.toArray:=by
  have f0 : ∀ m : Nat,eK (fun x1 x2=>x1 ++ x2) #[] (aj m its.toArray)=(aj m its).flatten.toArray:=fun m=>by
   have:=z9v its m []
   rw [b6] at this
   exact this
  rw [f0]
  cases its with
  | nil=>simp
  | cons a r'=>rw [if_neg (by simp)]
 refine wpAny_binaryOp_repeat_ref (T := "list") (U := "int") (by decide) ⟨_,e,rfl⟩ (fun s'=>typeIs_int s' k t) noFill_list_mul F.fills_int_mul F.slot_int_rmul repeat_list F.slot_int_index.lookup
  (call_meets F.slot_int_rmul (typeIs_int s k t) F.entry_int_rmul (F.args_int_rmul_2 _ _) (int___rmul___int_list k t l its.toArray n)
   ⟨e,rfl,⟨_,e,rfl⟩,call_meets F.slot_list_mul ⟨_,e,rfl⟩ F.entry_list_mul (F.args_list_mul_2 _ _) (AutoListH.list___mul___list_int_3 l its.toArray n k t hfit hcap hlong) ⟨e,?_⟩⟩)
 rw [hnew]
 exact ⟨.ref _,_,I.lnew (t':=s.toks) (r.rep k.toNat) (by rw [len_rep,Nat.mul_comm]; exact hz),rfl,q _ I.fresh⟩
end
section
variable {prog : Program} {w : World} {A : Around} {E : Value->Shared->Prop} {s : Shared}
end
section
variable {X : Cx}
end
end L2
namespace Att
open PySem PySem.W PySem.Calls PyProof.Rows
theorem z6l {P : Params} {h : Heap} : ∀ (ns : List Int) (vs : List Value),WellAll P h vs (ns.map WData.int)->IntsAre vs ns:=by
 intro ns
 induction ns with
 | nil=>
  intro vs w
  rw [cY] at w
  cases w
  exact .nil
 | cons n ns ih=>
  intro vs w
  rw [aT] at w
  cases w with
  | cons a b=>
   cases a
   exact .cons _ _ (ih _ b)
theorem y5p {l : OpenLaw} {n : Nat} (hn : l.most=some n) {P : Params} {h : Heap} {args : List WData} {vals : List Value}
  (hpre : l.row.toRowW.claim.pre args=true) (hwl : WellAll P h vals args) :
  ∃ a vs ns,vals=[Value.ref a]∧args=[WData.list (ns.map WData.int)]∧h.get? a=some { cls:=.type "list",data:=.seq vs.toArray }∧IntsAre vs ns∧ns.length≤n:=by
 have hsh : WShape.hasAll [] args [.list .int]=true:=(pre_splitW hpre).1
 have hc : l.pre.holds [] { args:=args } = true:=(pre_splitW hpre).2
 obtain ⟨d,r,rfl,h1,h2⟩:=hasAllW_cons hsh
 obtain rfl:=hasAllW_nil h2
 obtain ⟨xs,rfl,h3⟩:=hasW_list h1
 obtain ⟨ns,rfl⟩:=items_int h3
 have hlen : ns.length≤n:=by
  unfold OpenLaw.pre at hc
  have h4 : (WTm.not (.lt (.lit (.int (n : Int))) (.len (.arg 0)))).holds [] { args:=[.list (ns.map .int)] } = true:=by
   have h4:=(holds_andW hc).1
   rw [hn] at h4
   exact h4
  have h5:=condW_of h4 (w_not (w_lt w_lit (w_len_list (w_arg rfl))))
  rw [aq] at h5
  refine Nat.le_of_not_lt fun q=>?_
  have q' : (n : Int) < ((ns.length : Nat) : Int):=by omega
  first
   | (rw [decide_eq_true q'] at h5; exact absurd h5 (by decide))
   | (simp at h5; omega)
 cases hwl with
 | cons w1 w2=>
  cases w2
  cases w1 with
  | list ho hall=>exact ⟨_,_,ns,rfl,rfl,ho,z6l ns _ hall,hlen⟩
theorem y4d (l : OpenLaw) (args : List WData) : l.row.toRowW.claim.post args (.bool true) args=true:=
 postW_of (r:=l.row.toRowW) (X:=(true == true))
  (show WShape.has [] (.bool true) .bool=true by first | rfl | decide | simp [WShape.has,WShape.arms,WShape.armsAll])
  (show (WTm.eq .res (.lit (.bool true))).value [] { args:=args,res:=some (.bool true),after:=args } = some (.bool (true == true)) from w_eq_bool (w_res rfl) w_lit) rfl
theorem attach_call {l : OpenLaw} {n : Nat} {q : Program} {loose : List Str} {XP : (Str->Option Value)->Heap->Prop} {YP : World->Heap->Prop} {d : DefRec}
  (hn : l.most=some n) (hdf : d.params.defaults=[])
  (call : ∀ (w : World) (s₀ s₁ : Shared) (mg mb : Str->Option Value) (fa : Addr) (o : Obj) (pm cd doc : Value) (a : Addr) (vs : List Value) (ns : List Int),
   Ground q loose [] XP w s₀ mg mb s₁.heap->YP w s₁.heap →
   s₁.heap.get? fa=some o->o.data = .func (docDef d.name d.params d.body d.scope pm cd doc)->s₁.heap.CodeRec cd d.name->mg d.name=some (.ref fa) →
   s₁.heap.get? a=some { cls:=.type "list",data:=.seq vs.toArray }->IntsAre vs ns->ns.length≤n->s₁.gens = #[] →
   codeAny (model l.prog w) callerA (.call (.ref fa) ⟨[.ref a],[]⟩) (fun r s'=>r = .ok (.ret (.bool true))∧OldK s₁.heap s'.heap∧s'.os=s₁.os∧AllBare s'.gens) s₁) :
  WalkO q loose XP YP l.row.toRowW d [] (fun f vs=>PySem.call f vs):=by
 intro w s₀ s₁ mg mb G Y fa o pm cd doc dV kV ho hd hcd hD hmg hg args vals as hpre hlay hrd hwl hlo
 obtain rfl : dV = .none:=Dflts.none hD hdf
 obtain rfl : kV = .none:=Dflts.noKw hD
 obtain ⟨a,vs,ns,rfl,rfl,hobj,hints,hlen⟩:=y5p hn hpre hwl
 refine enter_call (codeAny_mono (call w s₀ s₁ mg mb fa o pm cd doc a vs ns G Y ho (fd_plain hd) hcd hmg hobj hints hlen hg) fun r s' hq=>?_)
 obtain ⟨rfl,h2,h3,h4⟩:=hq
 exact ⟨.inl ⟨.bool true,.bool true,[],rfl,fun _=>rfl,.bool true,y4d l _,fun _=>⟨List.Pairwise.nil,fun _ hm=>(nomatch hm)⟩⟩,h2,h3,h4⟩
section
variable {prog : Program} {w : World} {A : Around} {E : Value->Shared->Prop} {s : Shared} {K : Frag}
noncomputable def ledger (h : Heap) (L d : Addr) : List (Addr × Obj):=(ag h.objs.size).filterMap fun a=>if a=L∨a=d then none else (h.get? a).map fun o=>(a,o)
end
end Att
namespace L2
open PySem PySem.Spec PyProof.Rows
theorem z8R : ∀ {vs : List Value} {ns : List Int},IntsAre vs ns->Vals (ns.map V.int) vs
 | _,_,.nil=>.nil
 | _,_,.cons n t h=>.cons ⟨t,rfl⟩ (z8R h)
noncomputable def Only (H : Hp) : Prop:=∀ b,H b=none∨∃ o xs,H b=some (.frz o (.lst xs))
theorem y6N {P : Program} {w : World} {K : aa} {mg mb : Str->Option Value} {CX : CXT} {k : Nat} {fa a : Addr} {fd : FuncData} {x : Str} {sp : Sp} {s₁ : Shared} {vs : List Value} {ns : List Int}
  (KX : K.In s₁.heap) (hns : s₁.heap.Ns mainGlobals mg) (hb : s₁.heap.Ns builtinsNs mb) (hbb : ∀ x : Str,x ≠ "__name__" → mb x=bootBuiltins x) (hlim : s₁.heap.NoLimit) (hg : s₁.gens = #[])
  (ha : s₁.heap.get? a=some { cls:=.type "list",data:=.seq vs.toArray }) (hi : IntsAre vs ns) (hl : ns.length≤sizeLine) (hr : Room k callerA)
  (F : ∀ base : Heap,K.In base->base.Ns mainGlobals mg->FnOk P w K mg base CX k fa fd [x] sp) (hbind : ∀ (s : Shared) (u : Value),BindsTo s fd ⟨[u],[]⟩ [(x,u)])
  (hsp : ∀ H : Hp,Only H->SqL K H a (ns.map V.int)->sp [.ref a] H (fun v _=>v = .bl true) fun _ _ _=>False)
  (hCX : ∀ H e s',CX [] H s₁ (fun _ _ _=>False) e s'->False) :
  codeAny (model P w) callerA (.call (.ref fa) ⟨[.ref a],[]⟩) (fun r s'=>r = .ok (.ret (.bool true))∧OldK s₁.heap s'.heap∧s'.os=s₁.os∧AllBare s'.gens) s₁:=by
 have rv:=z8R hi
 have lenV:=hi.length
 have core : ∀ H : Hp,Only H->SqL K H a (ns.map V.int)->HOk P w H s₁.heap->(∀ b,H b≠none->b=a)->(H a≠none->K.lookup a=none) →
   codeAny (model P w) callerA (.call (.ref fa) ⟨[.ref a],[]⟩) (fun r s'=>r = .ok (.ret (.bool true))∧OldK s₁.heap s'.heap∧s'.os=s₁.os∧AllBare s'.gens) s₁:=by
  intro H hO hS hok hA hK
  have base_of : ∀ {b : Addr} {o : Obj},s₁.heap.get? b=some o->H b=none->(y7X s₁.heap H).get? b=some o:=fun e n=>y7j e n
  have noA : ∀ {b : Addr} {o : Obj} {es : Array DictEntry} {ep : Nat},s₁.heap.get? b=some o->o.data = .dict es ep->H b=none:=fun {b o es ep} e d=>by
   cases q : H b with
   | none=>rfl
   | some u=>
    have e' : b=a:=hA b (by rw [q]; simp)
    subst e'
    rw [ha] at e; cases e
    have d' : Data.seq vs.toArray _=Data.dict es ep:=d
    cases d'
  have nsK : ∀ {b : Addr} {m : Str->Option Value},s₁.heap.Ns b m->(y7X s₁.heap H).Ns b m:=fun {b m} ⟨o,es,ep,e,d,r⟩=>⟨o,es,ep,base_of e (noA e d),d,r⟩
  have hKb : K.In (y7X s₁.heap H):=fun b o e=>base_of (KX b o e) (by
   cases q : H b with
   | none=>rfl
   | some u=>
    have e' : b=a:=hA b (by rw [q]; simp)
    subst e'
    rw [hK (by rw [q]; simp)] at e; cases e)
  have hM : Mod K mg (y7X s₁.heap H):=⟨hKb,nsK hns,⟨mb,nsK hb,hbb⟩,let ⟨mc,h1,h2⟩:=hlim; ⟨mc,nsK h1,h2⟩⟩
  have e0 : Env0 P w K mg (y7X s₁.heap H) callerA [] s₁ H:=⟨rfl,hM,fun b o e=>of_hidT e,d7 (y2Y _ _),trivial,fun b hb=>absurd (show b∈([] : List Addr) from hb) (by simp),hok,.of_eq hg⟩
  refine codeAny_mono ((F _ hKb (nsK hns)).run callerA [] s₁ H ⟨[.ref a],[]⟩ [.ref a] [.ref a] _ _ hr e0 (hbind s₁ (.ref a)) (.cons rfl .nil) (hsp H hO hS)) fun r s' h=>?_
  cases r with
  | error e=>exact (hCX H e s' h).elim
  | ok fl=>
   cases fl with
   | next=>exact False.elim h
   | brk=>exact False.elim h
   | cont=>exact False.elim h
   | ret u=>
    obtain ⟨v,H',os,bare,un,hok',r',q⟩:=h
    have q' : v = .bl true:=q
    subst q'
    obtain rfl : u=Value.bool true:=r'
    refine ⟨rfl,OldK.of_keep fun b o e=>?_,os,bare⟩
    cases q : H b with
    | none=>exact un.keep b o e q (by intro z; exact absurd (show b∈([] : List Addr) from z) (by simp)) (by simp)
    | some u=>
     rcases hO b with z | ⟨ob,xs,z⟩
     ·rw [q] at z; cases z
     ·have z2:=un.frzs b ob _ z
      obtain ⟨e1,_⟩:=hok b _ z
      obtain ⟨e2,_⟩:=hok' b _ z2
      rw [e] at e1; cases e1
      exact e2
 cases hk : K.lookup a with
 | some o=>
  have e:=KX a o hk
  rw [ha] at e
  cases e
  refine core (fun _=>none) (fun _=>.inl rfl) (.inr ⟨_,vs.toArray,_,hk,rfl,rfl,rfl,by rw [aE,lenV]; exact hl,by simpa using rv⟩) (fun b u z=>by have z' : (none : Option HO)=some u:=z; cases z') (fun b z=>absurd rfl z) fun z=>absurd rfl z
 | none=>
  refine core (fun b=>if b=a then some (.frz { cls:=.type "list",data:=.seq vs.toArray } (.lst (ns.map V.int))) else none) (fun b=>?_) (.inl (.inr ⟨{ cls:=.type "list",data:=.seq vs.toArray },if_pos rfl⟩)) (fun b u z=>?_) (fun b z=>?_) fun _=>hk
  ·by_cases hb : b=a
   ·exact .inr ⟨_,_,if_pos hb⟩
   ·exact .inl (if_neg hb)
  ·by_cases hb : b=a
   ·have z':=(if_pos hb).symm.trans z
    cases z'
    subst hb
    exact ⟨ha,by rw [aq]; exact hl,vs,_,rv,ha⟩
   ·have z':=(if_neg hb).symm.trans z
    cases z'
  ·by_cases hb : b=a
   ·exact hb
   ·exact absurd (if_neg hb) z
end L2
namespace L2
open PySem PySem.Spec PyProof.Rows
noncomputable abbrev KOf {K : aa} {h : Heap} (_ : K.In h) : aa:=K
theorem walk_of {l : c7} {n k : Nat} {q : Program} {loose : List Str} {XP : (Str->Option Value)->Heap->Prop} {YP : World->Heap->Prop} {d : DefRec} {K : Params->aa} {CX : World->CXT} {sp : World->Sp} {x : Str}
  (hn : l.most=some n) (hn2 : n≤sizeLine) (hdf : d.params.defaults=[]) (hr : Room k callerA)
  (hY : ∀ (w : World) (h : Heap),YP w h->(K w.params).In h)
  (F : ∀ (w : World) (mg : Str->Option Value) (fa : Addr) (h : Heap),(K w.params).In h->h.Ns mainGlobals mg->mg d.name=some (.ref fa) →
   ∃ fd : FuncData,(∀ (s : Shared) (u : Value),BindsTo s fd ⟨[u],[]⟩ [(x,u)]) ∧
    ∀ base : Heap,(K w.params).In base->base.Ns mainGlobals mg->FnOk l.prog w (K w.params) mg base (CX w) k fa fd [x] (sp w))
  (hsp : ∀ (w : World) (H : Hp) (a : Addr) (ns : List Int),ns.length≤n->Only H->SqL (K w.params) H a (ns.map V.int)->sp w [.ref a] H (fun v _=>v = .bl true) fun _ _ _=>False)
  (hCX : ∀ (w : World) (H : Hp) (s : Shared) (e : Value) (s' : Shared),CX w [] H s (fun _ _ _=>False) e s'->False) :
  PySem.W.WalkO q loose XP YP l.row.toRowW d [] (fun f vs=>PySem.call f vs):=by
 refine Att.attach_call hn hdf fun w s₀ s₁ mg mb fa o pm cd doc a vs ns G Y ho hd hcd hmg hobj hints hlen hg=>?_
 have KX:=hY w _ Y
 obtain ⟨fd,hb,hF⟩:=F w mg fa _ KX G.T.g hmg
 exact y6N KX G.T.g G.T.b G.T.builtins G.T.nolimit hg hobj hints (aQ hlen hn2) hr hF hb (fun H hO hS=>hsp w H a ns hlen hO hS) fun H e s'=>hCX w H s₁ e s'
end L2
namespace L2
open PySem PySem.Spec PyProof.Rows
noncomputable def z0m (s : Stmt) : Arguments:=match s with
 | .FunctionDef _ a _ _ _ _ _ _ _ _=>a
 | _=>{ posonlyargs:=[],args:=[],vararg:=none,kwonlyargs:=[],kw_defaults:=[],kwarg:=none,defaults:=[] }
noncomputable def z0l (s : Stmt) : List Stmt:=match s with
 | .FunctionDef _ _ b _ _ _ _ _ _ _=>b
 | _=>[]
noncomputable def z0b (s : Stmt) : Scope:=match s with
 | .FunctionDef _ _ _ _ _ _ sc _ _ _=>sc
 | _=>{ kind:=.function,names:=[],isGenerator:=false,isCoroutine:=false }
noncomputable abbrev CX0 : CXT:=fun _ _ _ _ _ _=>False
noncomputable abbrev E0 : XK:=fun _ _ _=>False
theorem pass0 {X : Cx} : y4m CX0 X E0:=fun _ _ _ _ _ _ _ h=>h.elim
structure Fun (K : aa) (x qual : Str) (st : Stmt) (f : Addr) (fd : FuncData) : Prop where
 ex : ∃ (oc : Value) (od : Option Addr) (kV doc pm : Value) (an : Option Addr) (cdv ct : Value) (osl : Array (Option Value)),
  fd=aD x qual (z0m st) (z0l st) (z0b st) .none kV doc pm an cdv ct∧K.lookup f=some ⟨oc,od,.func fd,osl⟩∧ay K cdv qual=true
 kp : av K (.ref f)=true
section
variable {P : Program} {w : World} {K : aa} {mg : Str->Option Value} {base : Heap}
theorem Fun.ok {x qual : Str} {st : Stmt} {f : Addr} {fd : FuncData} {N ps : List Str} {k : Nat} {sp : Sp} (F : Fun K x qual st f fd) (S : FnScope N ps (z0b st)) (len : ∀ vs H Q E,sp vs H Q E->vs.length=ps.length)
  (hbody : ∀ (cdv : Value) (A : Around) (outer : List Env) (s : Shared) (H : Hp) (vs : List V) (Q : VK) (E : XK),Room k (A.deeper (envOfC qual (z0b st) s.heap.objs.size f cdv))->sp vs H Q E →
   ∃ t,PSs (z9R CX0 P w K mg base N qual (z0b st) f cdv A outer s H E).nox (z0l st) t∧t { nx:=fun _ H'=>Q .non H',rt:=Q } (z4d N vs) H) : FnOk P w K mg base CX0 (k + 1) f fd ps sp:=by
 obtain ⟨oc,od,kV,doc,pm,an,cdv,ct,osl,rfl,lk,hcd⟩:=F.ex
 refine fn_of lk hcd S len fun A outer s H vs Q E hr hsp=>?_
 obtain ⟨t,h,q⟩:=hbody cdv A outer s H vs Q E hr hsp
 exact ⟨t,h.nox,q⟩
theorem Fun.binds {x qual : Str} {st : Stmt} {f : Addr} {fd : FuncData} {ps : List Str} (F : Fun K x qual st f fd)
  (h : ∀ (kV doc pm : Value) (an : Option Addr) (cdv ct : Value) (us : List Value),us.length=ps.length->bindArgs (aD x qual (z0m st) (z0l st) (z0b st) .none kV doc pm an cdv ct) ⟨us,[]⟩=pure (ps.zip us)) : Binds K fd ps []:=by
 obtain ⟨oc,od,kV,doc,pm,an,cdv,ct,osl,rfl,lk,hcd⟩:=F.ex
 exact .all (h kV doc pm an cdv ct)
theorem z0z {x qual : Str} {st : Stmt} {f : Addr} {oc : Value} {od an : Option Addr} {osl : Array (Option Value)} {kV doc pm cdv ct : Value} (l : K.lookup f=some ⟨oc,od,.func (aD x qual (z0m st) (z0l st) (z0b st) .none kV doc pm an cdv ct),osl⟩)
  (c : ay K cdv qual=true) (k : av K (.ref f)=true) : Fun K x qual st f (aD x qual (z0m st) (z0l st) (z0b st) .none kV doc pm an cdv ct):=⟨⟨oc,od,kV,doc,pm,an,cdv,ct,osl,rfl,l,c⟩,k⟩
end
theorem z9A {n : Nat} (h : n≤1000) : n < sizeLine:=Nat.lt_of_le_of_lt h (by decide)
section
variable {X : Cx}
theorem pv (i : Nat) {x : Str} {pos : Pos} (hN : X.N[i]? = some x:=by rfl) (hv : Vis X.env.scope x:=by first | exact Or.inl rfl | exact Or.inr (Or.inl rfl) | exact Or.inr (Or.inr rfl)) (hd : (x == ("__debug__" : Str))=false:=by decide)
  (hcd : (x == ("__classdict__" : Str))=false:=by decide) : PE X (.Name x pos) (z7x i):=pe_var hN hv hd hcd
end
theorem iteF {A B : Prop} (h : B) : if false=true then A else B:=by
 rw [if_neg ao]
 exact h
theorem iteT {A B : Prop} (h : A) : if true=true then A else B:=by
 rw [if_pos rfl]
 exact h
noncomputable def Same (H H' : Hp) : Prop:=∀ b o,H b=some o->H' b=some o
theorem Same.refl (H : Hp) : Same H H:=fun _ _ h=>h
theorem Same.trans {H H1 H2 : Hp} (a : Same H H1) (b : Same H1 H2) : Same H H2:=fun c o h=>b c o (a c o h)
theorem Same.free {H H' : Hp} (e : Same H H') {l : Addr} (h : H' l=Option.none) : H l=Option.none:=by
 cases q : H l with
 | none=>rfl
 | some o=>
  rw [e l o q] at h
  cases h
end L2
namespace L2
open PySem PySem.Spec PyProof.Rows
section
variable {κ : Type} [DecidableEq κ]
noncomputable def y1m (kvs : List (κ × V)) (k : κ) : Option V:=(kvs.find? fun kv=>decide (kv.1=k)).map (·.2)
noncomputable def z6F (kvs : List (κ × V)) (k : κ) (v : V) : List (κ × V):=
 if (kvs.any fun kv=>decide (kv.1=k))=true then kvs.map (fun kv=>if kv.1=k then (kv.1,v) else kv) else kvs ++ [(k,v)]
theorem z8k {p : κ × V} {r : List (κ × V)} {k : κ} (e : p.1=k) : y1m (p :: r) k=some p.2:=by simp [y1m,bN,e]
theorem z7W {p : κ × V} {r : List (κ × V)} {k : κ} (e : ¬ p.1=k) : y1m (p :: r) k=y1m r k:=by simp [y1m,bN,e]
theorem z8B (k : κ) : ∀ kvs : List (κ × V),(kvs.any fun kv=>decide (kv.1=k))=(y1m kvs k).isSome
 | []=>rfl
 | p :: r=>by
  rw [ck]
  by_cases e : p.1=k
  ·simp only [z8k e,decide_eq_true e,Bool.true_or,eh]
  ·rw [z7W e,decide_eq_false e,Bool.false_or]; exact z8B k r
theorem z4r (kvs : List (κ × V)) (k : κ) (v : V) : (z6F kvs k v).length≤kvs.length + 1:=by
 unfold z6F
 split
 ·rw [aq]; omega
 ·rw [aK,a8,dv]; omega
theorem RelO.isSome_eq {o : Option V} {u : Option Value} (r : RelO o u) : o.isSome=u.isSome:=by
 cases o with
 | none=>cases u with
  | none=>rfl
  | some _=>exact (show False from r).elim
 | some _=>cases u with
  | none=>exact (show False from r).elim
  | some _=>rfl
theorem KV.val {kvs : List (κ × V)} {vs : List (κ × Value)} (r : KV kvs vs) (k : κ) : RelO (y1m kvs k) (valueAt vs k):=by
 unfold KV at r
 induction r with
 | nil=>exact True.intro
 | @cons p q ps qs h t ih=>
  obtain ⟨h1,h2⟩:=h
  by_cases e : p.1=k
  ·have e' : q.1=k:=h1.symm.trans e
   have b : valueAt (q :: qs) k=some q.2:=by simp [valueAt,bN,e']
   rw [z8k e,b]; exact h2
  ·have e' : ¬ q.1=k:=fun z=>e (h1.trans z)
   have b : valueAt (q :: qs) k=valueAt qs k:=by simp [valueAt,bN,e']
   rw [z7W e,b]; exact ih
theorem KV.any {kvs : List (κ × V)} {vs : List (κ × Value)} (r : KV kvs vs) (k : κ) : (kvs.any fun kv=>decide (kv.1=k))=vs.any fun kv=>decide (kv.1=k):=by
 unfold KV at r
 induction r with
 | nil=>rfl
 | cons h t ih=>rw [ck,ck,ih,h.1]
theorem KV.repl {kvs : List (κ × V)} {vs : List (κ × Value)} (r : KV kvs vs) (k : κ) {y : V} {u : Value} (ry : RelV y u) :
  KV (kvs.map fun kv=>if kv.1=k then (kv.1,y) else kv) (vs.map fun kv=>if kv.1=k then (kv.1,u) else kv):=by
 unfold KV at r ⊢
 induction r with
 | nil=>exact .nil
 | @cons p q ps qs h t ih=>
  rw [aT,aT]
  refine .cons ?_ ih
  obtain ⟨h1,h2⟩:=h
  by_cases e : p.1=k
  ·rw [if_pos e,if_pos (h1.symm.trans e)]; exact ⟨h1,ry⟩
  ·rw [if_neg e,if_neg (fun z=>e (h1.trans z))]; exact ⟨h1,h2⟩
theorem KV.put {kvs : List (κ × V)} {vs : List (κ × Value)} (r : KV kvs vs) (k : κ) {y : V} {u : Value} (ry : RelV y u) : KV (z6F kvs k y) (stored vs k u):=by
 unfold z6F stored
 rw [r.any k]
 by_cases e : (vs.any fun kv=>decide (kv.1=k))=true
 ·rw [if_pos e,if_pos e]; exact r.repl k ry
 ·rw [if_neg e,if_neg e]; exact Paired.snoc r ⟨rfl,ry⟩
theorem KV.keys {kvs : List (κ × V)} {vs : List (κ × Value)} (r : KV kvs vs) : kvs.map (·.1)=vs.map (·.1):=by
 unfold KV at r
 induction r with
 | nil=>rfl
 | cons h t ih=>rw [aT,aT,ih,h.1]
theorem KV.length {kvs : List (κ × V)} {vs : List (κ × Value)} (r : KV kvs vs) : kvs.length=vs.length:=Paired.length r
end
theorem y4K {P : Program} {w : World} {k : Key} {u : Value} (r : RelV (kV k) u) : (z1g P w).is k u=true:=by
 cases k with
 | inl i=>obtain ⟨t,e⟩:=(show ∃ t,u=Value.int i t from r); subst e; exact y0A P w i t
 | inr x=>obtain ⟨t,e⟩:=(show ∃ t,u=Value.str x t from r); subst e; exact y0Q P w x t
theorem z8L {P : Program} {w : World} : ∀ {ks : List Key} {us : List Value},Vals (ks.map kV) us->ItemsAre (z1g P w) ks us
 | [],_,r=>by rw [cY] at r; cases r; exact .nil
 | k :: ks,_,r=>by
  rw [aT] at r
  cases r with
  | cons h t=>exact .cons (y4K h) (z8L t)
noncomputable abbrev KT (H : Hp) : List (List Key × V)->List (List Key × Addr × Value)->Prop:=Paired fun p q=>p.1=q.1∧H q.2.1=some (.tup (p.1.map kV))∧RelV p.2 q.2.2
theorem KT.val {H : Hp} {kvs : List (List Key × V)} {xs : List (List Key × Addr × Value)} (r : KT H kvs xs) (k : List Key) : RelO (y1m kvs k) ((atKey xs k).map (·.2)):=by
 induction r with
 | nil=>exact True.intro
 | @cons p q ps qs h t ih=>
  obtain ⟨h1,_,h2⟩:=h
  by_cases e : p.1=k
  ·have e' : q.1=k:=h1.symm.trans e
   have b : atKey (q :: qs) k=some q.2:=by simp [atKey,bN,e']
   rw [z8k e,b]; exact h2
  ·have e' : ¬ q.1=k:=fun z=>e (h1.trans z)
   have b : atKey (q :: qs) k=atKey qs k:=by simp [atKey,bN,e']
   rw [z7W e,b]; exact ih
theorem KT.repl {H : Hp} {kvs : List (List Key × V)} {xs : List (List Key × Addr × Value)} (r : KT H kvs xs) (k : List Key) {y : V} {u : Value} (ry : RelV y u) :
  KT H (kvs.map fun kv=>if kv.1=k then (kv.1,y) else kv) (xs.map (putAt k u)):=by
 induction r with
 | nil=>exact .nil
 | @cons p q ps qs h t ih=>
  rw [aT,aT]
  refine .cons ?_ ih
  obtain ⟨h1,h2,h3⟩:=h
  unfold putAt
  by_cases e : p.1=k
  ·rw [if_pos e,if_pos (h1.symm.trans e)]; exact ⟨h1,h2,ry⟩
  ·rw [if_neg e,if_neg (fun z=>e (h1.trans z))]; exact ⟨h1,h2,h3⟩
theorem KT.put {H : Hp} {kvs : List (List Key × V)} {xs : List (List Key × Addr × Value)} (r : KT H kvs xs) (k : List Key) {b : Addr} {y : V} {u : Value} (hb : H b=some (.tup (k.map kV))) (ry : RelV y u) :
  KT H (z6F kvs k y) (storedH xs k b u):=by
 have e : (kvs.any fun kv=>decide (kv.1=k))=(atKey xs k).isSome:=by
  rw [z8B,(r.val k).isSome_eq,cV]
 unfold z6F storedH
 rw [e]
 by_cases q : (atKey xs k).isSome=true
 ·rw [if_pos q,if_pos q]; exact r.repl k ry
 ·rw [if_neg q,if_neg q]; exact Paired.snoc r ⟨rfl,hb,ry⟩
theorem KT.keeps {H H' : Hp} {kvs : List (List Key × V)} {xs : List (List Key × Addr × Value)} (r : KT H kvs xs) (ht : ∀ b ys,H b=some (.tup ys)->H' b=some (.tup ys)) : KT H' kvs xs:=
 Paired.mapP r fun _ _ z=>⟨z.1,ht _ _ z.2.1,z.2.2⟩
section
variable {P : Program} {w : World} {H : Hp} {h : Heap} {a : Addr}
theorem rd_of {u : HO} (ok : HOk P w H h) (e : Rd H a u) : ObjOk P w H h a u:=e.ok ok
theorem dk_rd {kvs : List (Key × V)} (ok : HOk P w H h) (e : Rd H a (.dK kvs)) : kvs.length≤sizeLine∧(a == sysModules)=false∧∃ vs,KV kvs vs∧h.DictOf (z1g P w) a vs:=
 show ObjOk P w H h a (.dK kvs) from rd_of ok e
theorem dk_of {kvs : List (Key × V)} (ok : HOk P w H h) (e : H a=some (.dK kvs)) : kvs.length≤sizeLine∧(a == sysModules)=false∧∃ vs,KV kvs vs∧h.DictOf (z1g P w) a vs:=dk_rd ok (.inl e)
theorem y1O {ks : List Key} (ok : HOk P w H h) (e : H a=some (.tup (ks.map kV))) : (tupleKind (z1g P w)).is h ks a:=by
 obtain ⟨_,its,r,o,h1,h2,n,h3⟩:=(show ObjOk P w H h a (.tup (ks.map kV)) from ok a _ e)
 exact ⟨o,its.toArray,n,h1,h2.1,h3,by simpa using z8L r⟩
theorem dt_rd {kvs : List (List Key × V)} (ok : HOk P w H h) (e : Rd H a (.dT kvs)) : kvs.length≤sizeLine∧(a == sysModules)=false ∧
  ∃ xs,KT H kvs xs∧h.DictOfH (tupleKind (z1g P w)) a xs:=by
 obtain ⟨z,y,xs,r,o,es,ep,h1,h2,h3,h4,h5⟩:=(show ObjOk P w H h a (.dT kvs) from rd_of ok e)
 refine ⟨z,y,xs,r,o,es,ep,h1,h2,h3,h4,fun x hx=>?_,h5⟩
 have all : ∀ {l : List (List Key × V)} {m : List (List Key × Addr × Value)},KT H l m->∀ x∈m,(tupleKind (z1g P w)).is h x.1 x.2.1:=by
  intro l m q
  induction q with
  | nil=>intro x hx; exact nomatch hx
  | @cons p q ps qs hq t ih=>
   intro x hx
   rcases ai.mp hx with e | hx
   ·subst e
    exact y1O ok (by rw [← hq.1]; exact hq.2.1)
   ·exact ih x hx
 exact all r x hx
theorem dt_of {kvs : List (List Key × V)} (ok : HOk P w H h) (e : H a=some (.dT kvs)) : kvs.length≤sizeLine∧(a == sysModules)=false ∧
  ∃ xs,KT H kvs xs∧h.DictOfH (tupleKind (z1g P w)) a xs:=dt_rd ok (.inl e)
end
noncomputable def DGet (H : Hp) (a : Addr) (y : V) (r : Option V) : Prop:=
 (∃ kvs k,Rd H a (.dK kvs)∧y=kV k∧r=y1m kvs k)∨∃ kvs k b,Rd H a (.dT kvs)∧y = .ref b∧H b=some (.tup (k.map kV))∧r=y1m kvs k
noncomputable def DPut (H : Hp) (a : Addr) (y v : V) (H' : Hp) : Prop:=
 (∃ kvs k,H a=some (.dK kvs)∧y=kV k∧kvs.length < sizeLine∧H'=upd H a (.dK (z6F kvs k v))) ∨
 ∃ kvs k b,H a=some (.dT kvs)∧y = .ref b∧H b=some (.tup (k.map kV))∧kvs.length < sizeLine∧H'=upd H a (.dT (z6F kvs k v))
theorem DGet.k {H : Hp} {a : Addr} {kvs : List (Key × V)} {k : Key} (e : H a=some (.dK kvs)) : DGet H a (kV k) (y1m kvs k):=.inl ⟨kvs,k,.inl e,rfl,rfl⟩
theorem DPut.k {H : Hp} {a : Addr} {kvs : List (Key × V)} {k : Key} {v : V} (e : H a=some (.dK kvs)) (hl : kvs.length < sizeLine) : DPut H a (kV k) v (upd H a (.dK (z6F kvs k v))):=.inl ⟨kvs,k,e,rfl,hl,rfl⟩
section
variable {X : Cx} {pins : List (Addr × Obj)} {σ : St} {H : Hp} {s : Shared} {a : Addr} {y v : V} {u r : Value} {o : Option V} {A : Around} {E : Value->Shared->Prop}
theorem Inv.big (I : Inv X pins σ H s) : sysModules < s.heap.objs.size:=by
 have h : mainGlobals < s.heap.objs.size:=(I.mod.glob.keeps I.bk).lt
 exact dY (by decide) h
theorem d_in {Q : Value->Shared->Prop} (hu : A.units + 1 < cLine) (I : Inv X pins σ H s) (g : DGet H a y o) (ry : RelV y u) (h : ∀ s',Inv X pins σ H s'->Q (.bool o.isSome) s') :
  wpAny (model X.prog X.w) A (compareOp .In u (.ref a)) Q E s:=by
 rcases g with ⟨kvs,k,e,ey,l⟩ | ⟨kvs,k,b,e,ey,eb,l⟩
 ·subst ey
  obtain ⟨z,hd,vs,rel,dd⟩:=dk_rd I.hok e
  refine wpAny_in_of (y4K ry) hd dd.mapOf ?_
  rw [← (rel.val k).isSome_eq,← l]
  exact h _ (I.tok _)
 ·subst ey
  cases (show u=Value.ref b from ry)
  obtain ⟨z,hd,xs,rel,dd⟩:=dt_rd I.hok e
  refine wpAny_in_heap (tupleKind_room_in1 hu) (y1O I.hok eb) hd dd ?_
  have q:=(rel.val k).isSome_eq
  rw [cV] at q
  rw [← q,← l]
  exact h _ (I.tok _)
theorem d_notIn {Q : Value->Shared->Prop} (hu : A.units + 1 < cLine) (I : Inv X pins σ H s) (g : DGet H a y o) (ry : RelV y u) (h : ∀ s',Inv X pins σ H s'->Q (.bool (!o.isSome)) s') :
  wpAny (model X.prog X.w) A (compareOp .NotIn u (.ref a)) Q E s:=by
 rcases g with ⟨kvs,k,e,ey,l⟩ | ⟨kvs,k,b,e,ey,eb,l⟩
 ·subst ey
  obtain ⟨z,hd,vs,rel,dd⟩:=dk_rd I.hok e
  refine wpAny_notIn_of (y4K ry) hd dd.mapOf ?_
  rw [← (rel.val k).isSome_eq,← l]
  exact h _ (I.tok _)
 ·subst ey
  cases (show u=Value.ref b from ry)
  obtain ⟨z,hd,xs,rel,dd⟩:=dt_rd I.hok e
  refine wpAny_notIn_heap (tupleKind_room_in1 hu) (y1O I.hok eb) hd dd ?_
  have q:=(rel.val k).isSome_eq
  rw [cV] at q
  rw [← q,← l]
  exact h _ (I.tok _)
theorem y0k {h' : Heap} {t' : Nat} {ob : HO} (I : Inv X pins σ H s) (mu : Mut (H a)) (hs : Heap.SameBut a s.heap h') (he : ∃ q,h'.get? a=some q) (new : ObjOk X.prog X.w (upd H a ob) h' a ob) :
  Inv X pins σ (upd H a ob) { s with heap:=h',toks:=t' }:=
 I.write (x:=a) (e:=a) mu (.inl rfl) (fun b q hb z=>(hs.2 b hb).trans z) he new
theorem y8l {P : Program} {w : World} {H' : Hp} {h' : Heap} {kvs : List (Key × V)} {vs : List (Key × Value)} (z : kvs.length≤sizeLine) (hd : (a == sysModules)=false) (rel : KV kvs vs) (dd : h'.DictOf (z1g P w) a vs) :
  ObjOk P w H' h' a (.dK kvs):=⟨z,hd,vs,rel,dd⟩
theorem y5a {H' : Hp} {Q : Unit->Shared->Prop} (hu : A.units + 1 < cLine) (I : Inv X pins σ H s) (g : DPut H a y v H') (ry : RelV y u) (rv : RelV v r) (h : ∀ s',Inv X pins σ H' s'->Q () s') :
  wpAny (model X.prog X.w) A (setItem (.ref a) u r) Q E s:=by
 rcases g with ⟨kvs,k,e,ey,l,eH⟩ | ⟨kvs,k,b,e,ey,eb,l,eH⟩
 ·subst ey eH
  obtain ⟨z,hd,vs,rel,dd⟩:=dk_of I.hok e
  have hz : vs.length≤sizeLine:=by rw [← rel.length]; exact z
  have hl : (z6F kvs k v).length≤sizeLine:=by have:=z4r kvs k v; omega
  refine wpAny_setItem_pairs (hsz:=hz) (y4K ry) dd fun h' dd' hs=>h _ ?_
  have he : ∃ q,h'.get? a=some q:=let ⟨q,_,_,hq,_⟩:=dd'; ⟨q,hq⟩
  exact y0k I (by rw [e]; exact True.intro) hs he (y8l hl hd (rel.put k rv) dd')
 ·subst ey eH
  cases (show u=Value.ref b from ry)
  obtain ⟨z,hd,xs,rel,dd⟩:=dt_of I.hok e
  have hz : xs.length≤sizeLine:=by rw [← Paired.length rel]; exact z
  have hl : (z6F kvs k v).length≤sizeLine:=by have:=z4r kvs k v; omega
  refine wpAny_setItem_heap (hsz:=hz) (tupleKind_room_in1 hu) (y1O I.hok eb) dd fun h' dd' hs=>h _ ?_
  obtain ⟨q,es,ep,hq,h2,h3,h4,_,h5⟩:=dd'
  refine y0k I (by rw [e]; exact True.intro) hs ⟨q,hq⟩ ⟨hl,hd,_,(rel.put k eb rv).keeps fun c ys ec=>?_,q,es,ep,hq,h2,h3,h4,h5⟩
  rw [z0t (ne_of ec e (fun z=>nomatch z))]
  exact ec
end
section
variable {X : Cx} {pins : List (Addr × Obj)} {σ : St} {H : Hp} {s : Shared} {a : Addr} {kvs : List (Key × V)} {k : Key} {u : Value} {A : Around} {E : Value->Shared->Prop}
end
noncomputable def tDIn (ty td : TE) : TE:=fun σ H Q=>ty σ H fun y H1=>td σ H1 fun x H2=>∃ a o,x = .ref a∧DGet H2 a y o∧Q (.bl o.isSome) H2
noncomputable def tDNotIn (ty td : TE) : TE:=fun σ H Q=>ty σ H fun y H1=>td σ H1 fun x H2=>∃ a o,x = .ref a∧DGet H2 a y o∧Q (.bl (!o.isSome)) H2
noncomputable def sDPut (td ty tv : TE) : TS:=fun D σ H=>tv σ H fun v H1=>td σ H1 fun x H2=>ty σ H2 fun y H3=>∃ a H4,x = .ref a∧DPut H3 a y v H4∧D.nx σ H4
section
variable {X : Cx} {o i e value : Expr} {pos pos' tpos : Pos} {td ty tv : TE}
theorem pc_din (hu : X.A.units + 1 < cLine) (hi : PE X i ty) (ho : PE X o td) : PC X .In i o (tDIn ty td):=by
 intro pins s σ H Q I h
 refine thn (hi pins s σ H _ I h) fun iv s1 ⟨y,H1,I1,ry,q1⟩=>thn (ho pins s1 σ H1 _ I1 q1) fun u s2 ⟨x,H2,I2,rx,a,ov,ex,g,q2⟩=>?_
 subst ex
 obtain rfl : u=Value.ref a:=rx
 exact d_in hu I2 g ry fun s3 I3=>⟨.bl ov.isSome,H2,I3,rfl,q2⟩
theorem y5A (hu : X.A.units + 1 < cLine) (hi : PE X i ty) (ho : PE X o td) : PC X .NotIn i o (tDNotIn ty td):=by
 intro pins s σ H Q I h
 refine thn (hi pins s σ H _ I h) fun iv s1 ⟨y,H1,I1,ry,q1⟩=>thn (ho pins s1 σ H1 _ I1 q1) fun u s2 ⟨x,H2,I2,rx,a,ov,ex,g,q2⟩=>?_
 subst ex
 obtain rfl : u=Value.ref a:=rx
 exact d_notIn hu I2 g ry fun s3 I3=>⟨.bl (!ov.isSome),H2,I3,rfl,q2⟩
theorem ps_dput (hu : X.A.units + 1 < cLine) (ho : PE X o td) (hi : PE X i ty) (hv : PE X value tv) (hs : swapsWith value (some (.Subscript o i pos')) pos.line X.env=pure false) :
  PS X (.Assign [.Subscript o i pos'] value pos) (sDPut td ty tv):=by
 intro pins s σ H D I h
 refine wpAny_Assign_Subscript (thn (hv pins s σ H _ I h) fun r s1 ⟨v,H1,I1,rv,q1⟩=>thn (ho pins s1 σ H1 _ I1 q1) fun u s2 ⟨x,H2,I2,rx,q2⟩=>thn (hi pins s2 σ H2 _ I2 q2) fun iv s3 ⟨y,H3,I3,ry,a,H4,ex,g,q3⟩=>?_) hs
 subst ex
 obtain rfl : u=Value.ref a:=rx
 exact y5a hu I3 g ry rv fun s4 I4=>⟨σ,H4,I4,q3⟩
end
theorem y1W {P : Program} {w : World} {H : Hp} (h : Heap) (hb : sysModules < h.objs.size) : ObjOk P w H (h.push { cls:=.type "dict",data:=.dict #[] }) h.objs.size (.dK []):=
 ⟨bA _,beq_eq_false_iff_ne.mpr (Ne.symm (aH hb)),[],.nil,Heap.DictOf.new h⟩
noncomputable def tDNewK : TE:=fun _ H Q=>∀ p,H p=none->Q (.ref p) (upd H p (.dK []))
section
variable {X : Cx} {pos : Pos}
theorem pe_dnewK : PE X (.Dict [] [] pos) tDNewK:=fun pins s σ H Q I h=>
 wpAny_Dict_empty ⟨.ref s.heap.objs.size,_,I.laid (a:=s.heap.objs.size) (o:=.dK []) (t':=s.toks) (fun _ _ q=>Heap.get?_push_of_some _ q) (ar _) (y1W s.heap I.big),rfl,h _ (I.hok.fresh (ar _))⟩
end
noncomputable def y5c : List (TE × TE)->St->Hp->(List (V × V)->Hp->Prop)->Prop
 | [],_,H,Q=>Q [] H
 | (tk,tv) :: r,σ,H,Q=>tk σ H fun x H1=>tv σ H1 fun y H2=>y5c r σ H2 fun ps H3=>Q ((x,y) :: ps) H3
noncomputable abbrev VV : List (V × V)->List (Value × Value)->Prop:=Paired fun p q=>RelV p.1 q.1∧RelV p.2 q.2
noncomputable def PPs (X : Cx) (pos : Pos) (keys : List (Option Expr)) (values : List Expr) (trs : List (TE × TE)) : Prop:=
 ∀ (pins : List (Addr × Obj)) (s : Shared) (σ : St) (H : Hp) (Q : List (V × V)->Hp->Prop),Inv X pins σ H s->y5c trs σ H Q →
  wpAny (model X.prog X.w) X.A (evalPairs (pairTrees keys values X.env pos)) (fun vs s'=>∃ ps H',Inv X pins σ H' s'∧VV ps vs∧Q ps H') X.xe s
theorem pps_nil {X : Cx} {pos : Pos} : PPs X pos [] [] []:=fun pins s σ H Q I h=>pairTrees_nil_walk ⟨[],H,I,.nil,h⟩
theorem y6e {X : Cx} {pos : Pos} {k v : Expr} {ks : List (Option Expr)} {vs : List Expr} {tk tv : TE} {trs : List (TE × TE)} (hk : PE X k tk) (hv : PE X v tv) (hr : PPs X pos ks vs trs) :
  PPs X pos (some k :: ks) (v :: vs) ((tk,tv) :: trs):=fun pins s σ H Q I h=>
 pairTrees_cons_walk (thn (hk pins s σ H _ I h) fun u s1 ⟨x,H1,I1,rx,q1⟩=>thn (hv pins s1 σ H1 _ I1 q1) fun w2 s2 ⟨y,H2,I2,ry,q2⟩=>
  thn (hr pins s2 σ H2 _ I2 q2) fun ws s3 ⟨ps,H3,I3,rel,q3⟩=>⟨(x,y) :: ps,H3,I3,.cons ⟨rx,ry⟩ rel,q3⟩)
noncomputable def z9E (kvs more : List (Key × V)) : List (Key × V):=more.foldl (fun acc kv=>z6F acc kv.1 kv.2) kvs
theorem KV.merge : ∀ {more : List (Key × V)} {rs : List (Key × Value)} {kvs : List (Key × V)} {vs : List (Key × Value)},KV more rs->KV kvs vs->KV (z9E kvs more) (merged vs rs):=by
 intro more rs kvs vs r
 unfold KV at r
 induction r generalizing kvs vs with
 | nil=>intro q; exact q
 | @cons p q ps qs h t ih=>
  intro r0
  have e : KV (z6F kvs p.1 p.2) (stored vs q.1 q.2):=by
   have:=r0.put p.1 h.2
   rw [← h.1]; exact this
  exact ih e
theorem z4M : ∀ (more kvs : List (Key × V)),(z9E kvs more).length≤kvs.length + more.length
 | [],kvs=>by show kvs.length≤kvs.length + 0; omega
 | p :: r,kvs=>by
  have h1:=z4M r (z6F kvs p.1 p.2)
  have h2:=z4r kvs p.1 p.2
  show (z9E (z6F kvs p.1 p.2) r).length≤_
  rw [a8]; omega
theorem z6S {P : Program} {w : World} : ∀ {kvs : List (Key × V)} {ws : List (Value × Value)},VV (kvs.map fun kv=>(kV kv.1,kv.2)) ws->∃ rs,Carries (z1g P w) ws rs∧KV kvs rs
 | [],_,r=>by rw [cY] at r; cases r; exact ⟨[],True.intro,.nil⟩
 | p :: kvs,_,r=>by
  rw [aT] at r
  cases r with
  | @cons a b as bs h t=>
   obtain ⟨rs,c,q⟩:=z6S (P:=P) (w:=w) t
   obtain ⟨b1,b2⟩:=b
   exact ⟨(p.1,b2) :: rs,⟨y4K h.1,rfl,c⟩,.cons ⟨rfl,h.2⟩ q⟩
noncomputable def tDisp (trs : List (TE × TE)) : TE:=fun σ H Q=>∀ p,H p=none->y5c trs σ (upd H p (.dK [])) fun ps H2=>H2 p=some (.dK [])∧∃ kvs : List (Key × V),ps=kvs.map (fun kv=>(kV kv.1,kv.2))∧kvs.length≤15∧Q (.ref p) (upd H2 p (.dK (z9E [] kvs)))
theorem pe_disp {X : Cx} {pos : Pos} {keys : List (Option Expr)} {values : List Expr} {trs : List (TE × TE)} (h : PPs X pos keys values trs) (hall : keys.all (·.isSome)=true) (hl : keys.length=values.length) (h0 : keys≠[])
  (h15 : keys.length≤15) : PE X (.Dict keys values pos) (tDisp trs):=by
 intro pins s σ H Q I q
 have hn:=I.hok.fresh (ar s.heap.objs.size)
 have I1:=I.laid (a:=s.heap.objs.size) (o:=.dK []) (h':=s.heap.push { cls:=.type "dict",data:=.dict #[] }) (t':=s.toks) (fun _ _ q=>Heap.get?_push_of_some _ q) (ar _) (y1W s.heap I.big)
 refine wpAny_Dict_walk (knd:=z1g X.prog X.w) hall hl h0 h15 (thn (h pins _ σ _ _ I1 (q _ hn)) fun ws s2 ⟨ps,H2,I2,rel,e,kvs,ep,lk,q2⟩=>?_)
 subst ep
 obtain ⟨rs,c,rk⟩:=z6S (P:=X.prog) (w:=X.w) rel
 obtain ⟨z,hd,vs0,r0,dd⟩:=dk_of I2.hok e
 cases r0
 refine ⟨rs,c,dd,fun h' dd' hs=>⟨.ref s.heap.objs.size,_,?_,rfl,q2⟩⟩
 have hz : (z9E [] kvs).length≤sizeLine:=by
  have h1:=z4M kvs []
  rw [dv] at h1
  rw [sizeLine_eq]; omega
 have he : ∃ q,h'.get? s.heap.objs.size=some q:=let ⟨q,_,_,hq,_⟩:=dd'; ⟨q,hq⟩
 exact y0k I2 (by rw [e]; exact True.intro) hs he (y8l hz hd (rk.merge .nil) dd')
structure M1 (X : Cx) (o : Expr) (m : Str) (apos : Pos) (e : Expr) (cpos : Pos) : Prop where
 base : attributeBase o m X.env (eval o X.env)=eval o X.env
 few : ((backTo cpos (starEach [e] X.env)).all (fun x=>!x.1) && (backToKw cpos (keywordEach [] X.env)).all (fun x=>x.1.isSome)
  && decide (([e] : List Expr).length + ([] : List Keyword).length + (if ([] : List Keyword).isEmpty then 0 else 1) < 30))=true
 line : (apos.endLine == cpos.line)=true
 trees : backTo cpos (starEach [e] X.env)=[(false,eval e X.env)]
structure M2 (X : Cx) (o : Expr) (m : Str) (apos : Pos) (e f : Expr) (cpos : Pos) : Prop where
 base : attributeBase o m X.env (eval o X.env)=eval o X.env
 few : ((backTo cpos (starEach [e,f] X.env)).all (fun x=>!x.1) && (backToKw cpos (keywordEach [] X.env)).all (fun x=>x.1.isSome)
  && decide (([e,f] : List Expr).length + ([] : List Keyword).length + (if ([] : List Keyword).isEmpty then 0 else 1) < 30))=true
 line : (apos.endLine == cpos.line)=true
 trees : backTo cpos (starEach [e,f] X.env)=[(false,eval e X.env),(false,eval f X.env)]
section
variable {X : Cx} {pins : List (Addr × Obj)} {σ : St} {H : Hp} {s : Shared} {a : Addr} {y d : V} {u r : Value} {o : Option V} {A : Around} {E : Value->Shared->Prop}
end
section
variable {X : Cx} {o e f : Expr} {apos cpos : Pos} {td ty tx : TE}
end
section
variable {X : Cx} {pins : List (Addr × Obj)} {σ : St} {H : Hp} {s : Shared} {a : Addr} {kvs : List (Key × V)} {A : Around} {E : Value->Shared->Prop}
end
section
variable {X : Cx} {pins : List (Addr × Obj)} {σ : St} {H : Hp} {s : Shared} {a : Addr} {y : V} {u : Value} {A : Around} {E : Value->Shared->Prop}
end
end L2
namespace L2
open PySem PySem.Spec PyProof.Rows
noncomputable def z3x (cells : List (Str × Addr)) : List (Str × NameKind)->List (Str × Addr)->List (Str × Addr)
 | [],acc=>acc
 | (n,k) :: r,acc=>if k == .free then z3x cells r ((n,(cells.lookup n).getD 0) :: acc) else z3x cells r acc
theorem z6k {env : Env} (f : Str × NameKind->List (Str × Addr)->Sem (ForInStep (List (Str × Addr))))
  (hf : ∀ n k cs,f (n,k) cs=if k == .free then (do let a ← cellOf env n; pure (.yield ((n,a) :: cs))) else pure (.yield cs)) :
  ∀ (names : List (Str × NameKind)) (acc : List (Str × Addr)),(∀ n,(n,NameKind.free)∈names->∃ c,env.cells.lookup n=some c)->forIn names acc f=pure (z3x env.cells names acc)
 | [],acc,_=>by rw [List.forIn_nil]; rfl
 | (n,k) :: r,acc,h=>by
  have hr:=z6k f hf r
  rw [List.forIn_cons,hf]
  unfold z3x
  by_cases hk : (k == NameKind.free)=true
  ·rw [if_pos hk,if_pos hk]
   have ek : k = .free:=eq_of_beq hk
   subst ek
   obtain ⟨c,e⟩:=h n ah
   have e1 : cellOf env n=pure c:=by unfold cellOf; rw [e]
   rw [e1,e]
   exact hr _ fun m hm=>h m (ak _ hm)
  ·rw [if_neg hk,if_neg hk]
   exact hr _ fun m hm=>h m (ak _ hm)
theorem z3B {scope : Scope} {env : Env} (h : ∀ n,(n,NameKind.free)∈scope.names->∃ c,env.cells.lookup n=some c) : closureFor scope env=pure (z3x env.cells scope.names []):=by
 simp only [closureFor]
 rw [z6k _ (fun n k cs=>by cases hkc : k == NameKind.free <;> simp [hkc]) scope.names [] h]
 rfl
theorem z3O {cells : List (Str × Addr)} : ∀ (names : List (Str × NameKind)) (acc : List (Str × Addr)) {x : Str} {c : Addr},(x,c)∈z3x cells names acc->(x,c)∈acc∨((x,NameKind.free)∈names∧c=(cells.lookup x).getD 0)
 | [],_,_,_,h=>.inl h
 | (n,k) :: r,acc,x,c,h=>by
  unfold z3x at h
  by_cases hk : (k == NameKind.free)=true
  ·rw [if_pos hk] at h
   have ek : k = .free:=eq_of_beq hk
   subst ek
   rcases z3O r _ h with z | ⟨z1,z2⟩
   ·rcases ai.mp z with q | q
    ·cases q
     exact .inr ⟨ah,rfl⟩
    ·exact .inl q
   ·exact .inr ⟨ak _ z1,z2⟩
  ·rw [if_neg hk] at h
   rcases z3O r _ h with z | ⟨z1,z2⟩
   ·exact .inl z
   ·exact .inr ⟨ak _ z1,z2⟩
theorem z2D {α : Type} {x : Str} {c : α} : ∀ {l : List (Str × α)},(x,c)∈l->(l.lookup x).isSome=true
 | (n,d) :: r,h=>by
  rw [cj]
  cases hb : x == n with
  | true=>rfl
  | false=>
   rcases ai.mp h with q | q
   ·cases q
    simp at hb
   ·exact z2D q
theorem z5U {cells : List (Str × Addr)} {x : Str} : ∀ (names : List (Str × NameKind)) (acc : List (Str × Addr)),(x,NameKind.free)∈names∨(∃ c,(x,c)∈acc)->∃ c,(x,c)∈z3x cells names acc
 | [],_,h=>h.elim (fun z=>nomatch z) id
 | (n,k) :: r,acc,h=>by
  unfold z3x
  by_cases hk : (k == NameKind.free)=true
  ·rw [if_pos hk]
   refine z5U r _ ?_
   rcases h with z | ⟨c,z⟩
   ·rcases ai.mp z with q | q
    ·cases q
     exact .inr ⟨_,ah⟩
    ·exact .inl q
   ·exact .inr ⟨c,ak _ z⟩
  ·rw [if_neg hk]
   refine z5U r _ ?_
   rcases h with z | z
   ·rcases ai.mp z with q | q
    ·cases q
     exact absurd (by rfl) hk
    ·exact .inl q
   ·exact .inr z
theorem z3v : ∀ (names : List (Str × NameKind)) (h : Heap) (acc : List (Str × Addr)) {x : Str} {c : Addr},(x,c)∈cellsFrom h.objs.size names acc →
  (x,c)∈acc∨((x,NameKind.cell)∈names∧h.objs.size≤c∧(pushCells h names).IsCell c none)
 | [],_,_,_,_,hm=>.inl hm
 | (n,k) :: r,h,acc,x,c,hm=>by
  unfold cellsFrom at hm
  unfold pushCells
  by_cases hk : (k == NameKind.cell)=true
  ·rw [if_pos hk] at hm
   rw [if_pos hk]
   have ek : k = .cell:=eq_of_beq hk
   subst ek
   have e : (h.push { cls:=.type "cell",data:=.cell none }).objs.size=h.objs.size + 1:=Heap.size_push ..
   rw [← e] at hm
   rcases z3v r _ _ hm with z | ⟨z1,z2,z3⟩
   ·rcases ai.mp z with q | q
    ·cases q
     exact .inr ⟨ah,ar _,⟨_,pushCells_keeps r _ _ _ (Heap.get?_push_size _ rfl),rfl⟩⟩
    ·exact .inl q
   ·exact .inr ⟨ak _ z1,by omega,z3⟩
  ·rw [if_neg hk] at hm
   rw [if_neg hk]
   rcases z3v r h acc hm with z | ⟨z1,z2,z3⟩
   ·exact .inl z
   ·exact .inr ⟨ak _ z1,z2,z3⟩
theorem z3b {x : Str} : ∀ (names : List (Str × NameKind)) (n : Nat) (acc : List (Str × Addr)),(x,NameKind.cell)∈names∨(∃ c,(x,c)∈acc)->∃ c,(x,c)∈cellsFrom n names acc
 | [],_,_,h=>h.elim (fun z=>nomatch z) id
 | (y,k) :: r,n,acc,h=>by
  unfold cellsFrom
  by_cases hk : (k == NameKind.cell)=true
  ·rw [if_pos hk]
   refine z3b r _ _ ?_
   rcases h with z | ⟨c,z⟩
   ·rcases ai.mp z with q | q
    ·cases q
     exact .inr ⟨_,ah⟩
    ·exact .inl q
   ·exact .inr ⟨c,ak _ z⟩
  ·rw [if_neg hk]
   refine z3b r _ _ ?_
   rcases h with z | z
   ·rcases ai.mp z with q | q
    ·cases q
     exact absurd (by rfl) hk
    ·exact .inl q
   ·exact .inr z
theorem z3e (lo : Nat) : ∀ (names : List (Str × NameKind)) (n : Nat) (acc : List (Str × Addr)),(∀ x y c,(x,c)∈acc->(y,c)∈acc->lo≤c->x=y)->(∀ p∈acc,p.2 < n) →
  ∀ x y c,(x,c)∈cellsFrom n names acc->(y,c)∈cellsFrom n names acc->lo≤c->x=y
 | [],_,_,h,_=>h
 | (m,k) :: r,n,acc,h,hb=>by
  unfold cellsFrom
  by_cases hk : (k == NameKind.cell)=true
  ·rw [if_pos hk]
   refine z3e lo r (n + 1) ((m,n) :: acc) (fun x y c hx hy hc=>?_) fun p hp=>?_
   ·rcases ai.mp hx with q | q <;> rcases ai.mp hy with q' | q'
    ·cases q; cases q'; rfl
    ·cases q
     exact absurd (hb _ q') (bC _)
    ·cases q'
     exact absurd (hb _ q) (bC _)
    ·exact h x y c q q' hc
   ·rcases ai.mp hp with q | q
    ·cases q; exact cJ _
    ·exact bz (hb p q)
  ·rw [if_neg hk]
   exact z3e lo r n acc h hb
theorem z4f (env : Env) (x : Str) : ∀ names : List (Str × NameKind),
  (names.map fun (n,k)=>if (k == NameKind.free && env.scope.kind == .function && env.kindOf n == some .cell) then (n,NameKind.cell) else (n,k)).lookup x =
   (names.lookup x).map fun k=>if (k == NameKind.free && env.scope.kind == .function && env.kindOf x == some .cell) then NameKind.cell else k
 | []=>rfl
 | (n,k) :: r=>by
  have ih:=z4f env x r
  show List.lookup x ((if (k == NameKind.free && env.scope.kind == .function && env.kindOf n == some .cell)=true then (n,NameKind.cell) else (n,k)) :: _)=_
  cases hx : x == n with
  | true=>
   have e:=eq_of_beq hx
   subst e
   by_cases hc : (k == NameKind.free && env.scope.kind == .function && env.kindOf x == some .cell)=true
   ·rw [if_pos hc]
    simp only [cj,beq_self_eq_true,bF,hc,if_true]
   ·rw [if_neg hc]
    simp only [cj,beq_self_eq_true,bF]
    rw [if_neg hc]
  | false=>
   by_cases hc : (k == NameKind.free && env.scope.kind == .function && env.kindOf n == some .cell)=true
   ·rw [if_pos hc]; simp only [cj,hx]; exact ih
   ·rw [if_neg hc]; simp only [cj,hx]; exact ih
theorem z2K {M : Model} {A : Around} {E : Value->Shared->Prop} {s : Shared} {scope : Scope} {globals : Addr} {closure : List (Str × Addr)} {qual : Str} {env : Env} {Q : Env->Shared->Prop}
  (hQ : Q (newEnv scope s.heap.objs.size globals (cellsFrom (s.heap.objs.size + 1) scope.names closure) qual none .none (some env) builtinsNs)
   { s with heap:=pushCells (s.heap.push { cls:=.type "dict",data:=.dict #[] }) scope.names }) :
  wpAny M A (newFunctionEnv scope globals closure [] qual none .none (some env)) Q E s:=by
 simp only [newFunctionEnv,eh,if_true]
 refine wpAny_bind (wpAny_alloc ?_)
 refine wpAny_bind (wpAny_layCells _ (fun name kind cells=>by cases hkc : kind == NameKind.cell <;> simp [hkc]) _ _ _ _ ?_)
 rw [show ({ s with heap:=s.heap.push { cls:=.type "dict",data:=.dict #[] } } : Shared).heap.objs.size=s.heap.objs.size + 1 from Heap.size_push ..]
 refine wpAny_bind ?_
 rw [List.forIn_nil]
 exact wpAny_pure (wpAny_pure hQ)
noncomputable def capOk (out names : List (Str × NameKind)) : Bool:=names.all fun p=>!(decide (p.2=NameKind.free)) || (decide (out.lookup p.1=some NameKind.cell) || decide (out.lookup p.1=some NameKind.free))
noncomputable def nmOk (N N' : List Str) (names : List (Str × NameKind)) : Bool:=(ag N.length).all fun i=>match N'[i]? with
 | some y=>decide (names.lookup y=none) || (decide (names.lookup y=some NameKind.free) && decide (N[i]? = some y))
 | none=>false
structure CompScope (N : List Str) (out : List (Str × NameKind)) (N' : List Str) (k : Nat) (sc : Scope) : Prop where
 kind : sc.kind = .function
 len : N'.length=N.length + k
 cap : capOk out sc.names=true
 nm : nmOk N N' sc.names=true
 uniq : sc.names.all (fun p=>decide (sc.names.lookup p.1=some p.2))=true
noncomputable def z0I (X : Cx) (N' : List Str) (sc : Scope) (s : Shared) (H : Hp) (fp : List Addr) (pins : List (Addr × Obj)) (E : Value->Shared->Prop) : Cx where
 prog:=X.prog
 w:=X.w
 K:=X.K
 mg:=X.mg
 base:=X.base
 A:=X.A
 N:=N'
 s₀:=s
 H₀:=H
 env:=compEnvC sc (cellsFrom (s.heap.objs.size + 1) sc.names (z3x X.env.cells sc.names [])) s.heap.objs.size X.env
 outer:=X.stack
 stack:=X.stack
 ex:=fp
 fn:=fun x=>decide (sc.names.lookup x=some .cell)
 calm:=X.calm
 pn:=X.pn ++ pins
 xe:=E
section
variable {X : Cx} {N' : List Str} {k : Nat} {sc : Scope} {pins : List (Addr × Obj)} {σ : St} {H : Hp} {s : Shared} {fp : List Addr} {E : Value->Shared->Prop}
theorem CompScope.fr (S : CompScope X.N X.env.scope.names N' k sc) {x : Str} (h : (x,NameKind.free)∈sc.names) : X.env.kindOf x=some .cell∨X.env.kindOf x=some .free:=by
 have q:=aS.mp S.cap _ h
 simp at q
 exact q
theorem CompScope.look {N : List Str} {out : List (Str × NameKind)} (S : CompScope N out N' k sc) {x : Str} {kd : NameKind} (h : (x,kd)∈sc.names) : sc.names.lookup x=some kd:=by
 have q:=aS.mp S.uniq _ h
 exact of_decide_eq_true q
theorem y6d (S : CompScope X.N X.env.scope.names N' k sc) (I : Inv X pins σ H s) (hf : ∀ b∈fp,y0v X pins H b) (hlt : ∀ b∈fp,b < s.heap.objs.size) :
  Inv (z0I X N' sc s H fp pins E) [] (σ ++ aj k none) H { s with heap:=pushCells (s.heap.push { cls:=.type "dict",data:=.dict #[] }) sc.names }:=by
 have keeps : ∀ b o,s.heap.get? b=some o->(pushCells (s.heap.push { cls:=.type "dict",data:=.dict #[] }) sc.names).get? b=some o:=fun b o e=>pushCells_keeps _ _ _ _ (Heap.get?_push_of_some _ e)
 have hsz : (s.heap.push { cls:=.type "dict",data:=.dict #[] }).objs.size=s.heap.objs.size + 1:=Heap.size_push ..
 have hns : (pushCells (s.heap.push { cls:=.type "dict",data:=.dict #[] }) sc.names).Ns s.heap.objs.size (fun _=>none):=(Heap.Ns.new s.heap (.type "dict")).keeps (pushCells_keeps _ _)
 have frc : ∀ x,(x,NameKind.free)∈sc.names->∃ c,X.env.cells.lookup x=some c:=fun x h=>I.ok.has x (S.fr h)
 have cm : ∀ x c,(x,c)∈cellsFrom (s.heap.objs.size + 1) sc.names (z3x X.env.cells sc.names []) →
   ((x,NameKind.cell)∈sc.names∧s.heap.objs.size + 1≤c∧(pushCells (s.heap.push { cls:=.type "dict",data:=.dict #[] }) sc.names).IsCell c none)∨((x,NameKind.free)∈sc.names∧X.env.cells.lookup x=some c):=fun x c h=>by
  rw [← hsz] at h
  rcases z3v _ _ _ h with z | ⟨z1,z2,z3⟩
  ·rcases z3O _ _ z with z | ⟨z1,z2⟩
   ·exact nomatch z
   ·obtain ⟨c',e⟩:=frc x z1
    rw [e] at z2
    cases z2
    exact .inr ⟨z1,e⟩
  ·exact .inl ⟨z1,by omega,z3⟩
 have cl : ∀ x c,(cellsFrom (s.heap.objs.size + 1) sc.names (z3x X.env.cells sc.names [])).lookup x=some c->(x,c)∈cellsFrom (s.heap.objs.size + 1) sc.names (z3x X.env.cells sc.names []):=fun x c h=>PySem.mem_of_lookup h
 have clt : ∀ x c,X.env.cells.lookup x=some c->c < s.heap.objs.size:=fun x c h=>by
  obtain ⟨v,q⟩:=I.cell x c h
  exact q.lt
 have has : ∀ x,(x,NameKind.cell)∈sc.names∨(x,NameKind.free)∈sc.names->∃ c,(cellsFrom (s.heap.objs.size + 1) sc.names (z3x X.env.cells sc.names [])).lookup x=some c:=fun x h=>by
  obtain ⟨c,hc⟩:=z3b (x:=x) sc.names (s.heap.objs.size + 1) (z3x X.env.cells sc.names []) (h.imp id fun z=>z5U _ _ (.inl z))
  exact cC.mp (z2D hc)
 have kd : ∀ x kk,(relabel sc X.env).names.lookup x=some kk->∃ k0,sc.names.lookup x=some k0∧(kk=k0∨(k0 = .free∧kk = .cell)):=fun x kk h=>by
  have q:=z4f X.env x sc.names
  have h' : (sc.names.map fun (n,k)=>if (k == NameKind.free && X.env.scope.kind == .function && X.env.kindOf n == some .cell) then (n,NameKind.cell) else (n,k)).lookup x=some kk:=h
  rw [q] at h'
  cases e : sc.names.lookup x with
  | none=>rw [e] at h'; cases h'
  | some k0=>
   rw [e] at h'
   simp only [bF,Option.some.injEq] at h'
   refine ⟨k0,rfl,?_⟩
   split at h'
   ·rename_i hc
    simp at hc
    exact .inr ⟨hc.1.1,h'.symm⟩
   ·exact .inl h'.symm
 refine ⟨⟨I.ok.mod,S.kind,I.ok.glob,I.ok.blt,ar _,?inj,?has,?cab,I.ok.hd,I.ok.frames,.inl rfl,?exf,I.bs,aQ I.ok.bsz I.sz,?noex,?exfs,I.stack,I.stkFree⟩,
  rfl,I.bare,Un.kept keeps,⟨_,hns,?loc⟩,?cell,I.hok.fresh (ar _),?freeC,?pin,I.hok.kept keeps,?len⟩
 case inj=>
  intro x y c h1 h2
  rcases cm x c (cl x c h1) with ⟨_,l1,_⟩ | ⟨m1,e1⟩
  ·rcases cm y c (cl y c h2) with ⟨_,l2,_⟩ | ⟨m2,e2⟩
   ·refine z3e (s.heap.objs.size + 1) sc.names (s.heap.objs.size + 1) (z3x X.env.cells sc.names []) (fun x y c hx _ hc=>?_) (fun p hp=>?_) x y c (cl x c h1) (cl y c h2) l1
    ·rcases z3O _ _ hx with z | ⟨z1,z2⟩
     ·exact nomatch z
     ·obtain ⟨c',e⟩:=frc x z1
      rw [e] at z2
      have z3 : c=c':=z2
      subst z3
      exact absurd (clt x c e) (dG.mpr (bP hc))
    ·obtain ⟨x,c⟩:=p
     rcases z3O _ _ hp with z | ⟨z1,z2⟩
     ·exact nomatch z
     ·obtain ⟨c',e⟩:=frc x z1
      rw [e] at z2
      have z3 : c=c':=z2
      subst z3
      exact bz (clt x c e)
   ·exact absurd (clt y c e2) (dG.mpr (bP l1))
  ·rcases cm y c (cl y c h2) with ⟨_,l2,_⟩ | ⟨m2,e2⟩
   ·exact absurd (clt x c e1) (dG.mpr (bP l2))
   ·exact I.ok.inj x y c e1 e2
 case has=>
  intro x hx
  refine has x ?_
  rcases hx with hx | hx
  ·obtain ⟨k0,e,h⟩:=kd x _ hx
   rcases h with h | ⟨h,_⟩
   ·subst h; exact .inl (PySem.mem_of_lookup e)
   ·subst h; exact .inr (PySem.mem_of_lookup e)
  ·obtain ⟨k0,e,h⟩:=kd x _ hx
   rcases h with h | ⟨_,h⟩
   ·subst h; exact .inr (PySem.mem_of_lookup e)
   ·cases h
 case cab=>
  intro x c hfn h
  have hfn' : sc.names.lookup x=some NameKind.cell:=of_decide_eq_true hfn
  rcases cm x c (cl x c h) with ⟨_,l,_⟩ | ⟨m,_⟩
  ·exact bP l
  ·rw [S.look m] at hfn'; cases hfn'
 case exf=>
  intro b hb
  refine ⟨aH (hlt b hb),fun x c h=>?_⟩
  rcases cm x c (cl x c h) with ⟨_,l,_⟩ | ⟨_,e⟩
  ·intro z
   subst z
   exact absurd (hlt c hb) (dG.mpr (bP l))
  ·exact (hf b hb).2.2.2.2.1 x c e
 case noex=>
  intro b o e hb
  rcases (hf b hb).2.2.2.1 with z | z
  ·exact I.ok.noex b o e z
  ·exact absurd (aP (Heap.lt_size e) (aQ I.ok.bsz z)) (bC _)
 case exfs=>exact fun b hb z=>(ai.mp (I.stkSub b z)).elim (hf b hb).2.1 (hf b hb).2.2.1
 case loc=>
  intro i y v h1 h2 h3
  have hl:=I.len
  by_cases hi : i < σ.length
  ·rw [a9 hi] at h2
   have q:=aS.mp S.nm i (ad.mpr (by omega))
   have h1' : N'[i]? = some y:=h1
   simp only [h1',cq,aJ,decide_eq_true_eq] at q
   rcases q with q | ⟨q1,q2⟩
   ·exfalso
    rcases h3 with z | z | z <;> (obtain ⟨k0,e,_⟩:=kd y _ z; rw [q] at e; cases e)
   ·have hm:=PySem.mem_of_lookup q1
    obtain ⟨m,hn,hloc⟩:=I.loc
    have kk:=S.fr hm
    obtain ⟨u,r,l⟩:=hloc i y v q2 h2 (kk.elim (fun z=>.inr (.inl z)) fun z=>.inr (.inr z))
    refine ⟨u,r,.inr ⟨?_,?_⟩⟩
    ·rcases h3 with z | z | z
     ·obtain ⟨k0,e,h⟩:=kd y _ z
      rw [q1] at e
      cases e
      rcases h with h | ⟨_,h⟩ <;> cases h
     ·exact .inl z
     ·exact .inr z
    ·rcases l with ⟨l,_⟩ | ⟨_,c,ec,hc⟩
     ·rcases kk with z | z <;> (rw [z] at l; cases l)
     ·obtain ⟨c',e'⟩:=has y (.inr hm)
      refine ⟨c',e',?_⟩
      rcases cm y c' (cl y c' e') with ⟨m',_⟩ | ⟨_,e2⟩
      ·have:=S.look m'
       rw [q1] at this
       cases this
      ·rw [ec] at e2
       cases e2
       exact hc.keeps keeps
  ·rw [bv (by omega),bI] at h2
   split at h2 <;> cases h2
 case cell=>
  intro x c h
  rcases cm x c (cl x c h) with ⟨_,_,q⟩ | ⟨_,e⟩
  ·exact ⟨_,q⟩
  ·obtain ⟨v,q⟩:=I.cell x c e
   exact ⟨v,q.keeps keeps⟩
 case freeC=>
  intro x c h
  rcases cm x c (cl x c h) with ⟨_,l,_⟩ | ⟨_,e⟩
  ·exact I.hok.fresh (bP l)
  ·exact I.freeC x c e
 case pin=>
  intro p hp
  have hp' : p∈X.pn ++ pins:=by
   rcases aF.mp hp with z | z
   ·exact z
   ·exact nomatch z
  obtain ⟨e,n,ne,nf,d⟩:=I.pin p hp'
  exact ⟨keeps _ _ e,n,aH (Heap.lt_size e),fun z=>(ai.mp (I.stkSub p.1 z)).elim ne nf,d⟩
 case len=>
  show _=N'.length
  rw [aK,d9,S.len,I.len]
theorem z8I {σ' : St} {H' : Hp} {s' : Shared} (I : Inv X pins σ H s) (hf : ∀ b∈fp,y0v X pins H b) (J : Inv (z0I X N' sc s H fp pins E) [] σ' H' s') : Inv X pins σ H' s':=
 I.call' J.os J.base J.hok J.bare fun b hb=>⟨(hf b hb).2.2.2.1,(hf b hb).2.1,(hf b hb).2.2.2.2.1,(hf b hb).2.2.2.2.2⟩
theorem y5m {H' : Hp} {s' : Shared} {h' : Heap} (I : Inv X pins σ H s) (J : Inv X pins σ H' s') (hn : H' s.heap.objs.size=none) (hb : Heap.SameBut s.heap.objs.size s'.heap h') : Inv X pins σ H' { s' with heap:=h' }:=by
 refine J.turned (t':=s'.toks) (it:=s.heap.objs.size) (fun b o hne e=>(hb.2 b hne).trans e) hn (cz I.lt) (.inr I.sz) (fun x c e=>?_) fun p hp=>?_
 ·obtain ⟨v,q⟩:=I.cell x c e
  exact aH q.lt
 ·exact aH (Heap.lt_size (I.pin p hp).1)
end
theorem z9H {prog : Program} {w : World} {A : Around} {R : Result->Shared->Prop} {s : Shared} {elt target iter : Expr} {ifs : List Expr} {scope : Scope} {pos : Pos} {it acc : Value} {env : Env} (I : Nat->Shared->Prop)
  (turn : ∀ n s,I n s->wpAny (model prog w) A (pyNext it) (fun r s₁=>match r with
   | none=>R (.ok .next) s₁
   | some v=>wpAny (model prog w) A (letOwnedTupleGo target it v) (fun _ s₁'=>wpAny (model prog w) A (assign target env v) (fun _ s₂=>
     wpAny (model prog w) A (forIn ifs true fun c r=>if r=true then do let ok ← isTrue c env (eval c env); pure (ForInStep.yield ok) else pure (ForInStep.yield r)) (fun ok s₃=>
      if ok=true then wpAny (model prog w) A (eval elt env) (fun x s₄=>
       wpAny (model prog w) A (call (.builtin "list.append") [acc,x]) (fun _ s₅=>∃ m,m < n∧I m s₅) (notedBy (model prog w) A env fun e s'=>R (.error e) s') s₄) (notedBy (model prog w) A env fun e s'=>R (.error e) s') s₃
      else ∃ m,m < n∧I m s₃) (notedBy (model prog w) A env fun e s'=>R (.error e) s') s₂) (notedBy (model prog w) A env fun e s'=>R (.error e) s') s₁') (notedBy (model prog w) A env fun e s'=>R (.error e) s') s₁) (notedBy (model prog w) A env fun e s'=>R (.error e) s') s)
  (n : Nat) (h : I n s) :
  codeAny (model prog w) A (.compLoop (.ListComp elt [⟨target,iter,ifs,0⟩] scope pos) 0 it acc env) R s:=by
 refine codeAny_loop rfl I (fun n s hI=>?_) n h
 show wpAny _ A ((compTurn (.ListComp elt [⟨target,iter,ifs,0⟩] scope pos) 0 it acc env).onRaise (fun x=>do noteFrame x env; theTreesLotGoes x)) _ _ s
 refine wpAny_noted ?_
 rw [compTurn_list]
 refine wpAny_bind (wpAny_standAt (wpAny_bind (wpAny_mono (turn n s hI) (fun r s₁ h₁=>?_) fun _ _ h'=>h')))
 cases r with
 | none=>exact wpAny_pure h₁
 | some v=>
  refine wpAny_bind (wpAny_mono h₁ (fun _ s₁' h₁'=>?_) fun _ _ h'=>h')
  refine wpAny_bind (wpAny_mono h₁' (fun _ s₂ h₂=>wpAny_bind (wpAny_mono h₂ (fun ok s₃ h₃=>?_) fun _ _ h'=>h')) fun _ _ h'=>h')
  cases ok with
  | false=>exact wpAny_pure ⟨rfl,h₃⟩
  | true=>
   exact wpAny_bind (wpAny_bind (wpAny_mono h₃ (fun x s₄ h₄=>wpAny_bind (wpAny_mono h₄ (fun _ s₅ h₅=>wpAny_pure (wpAny_pure ⟨rfl,h₅⟩)) fun _ _ h'=>h')) fun _ _ h'=>h'))
noncomputable def y5M (X : Cx) (ifs : List Expr) (t : TT) : Prop:=
 ∀ (pins : List (Addr × Obj)) (s : Shared) (σ : St) (H : Hp) (Q : Bool->Hp->Prop),Inv X pins σ H s->t σ H Q →
  wpAny (model X.prog X.w) X.A (forIn ifs true fun c r=>if r=true then do let ok ← isTrue c X.env (eval c X.env); pure (ForInStep.yield ok) else pure (ForInStep.yield r)) (TP X pins σ Q) X.xe s
noncomputable def tYes : TT:=fun _ H Q=>Q true H
theorem y7o {X : Cx} : y5M X [] tYes:=fun _ _ _ H _ I h=>wpAny_tests_nil ⟨H,I,h⟩
theorem y6L {X : Cx} {c : Expr} {t : TT} (h : PT X c t) : y5M X [c] t:=fun pins s σ H Q I hw=>wpAny_tests_one (h pins s σ H Q I hw)
noncomputable def y5F (wi : TI) (g : TG) (tc : TT) (te : TE) (k : Nat) : TE:=fun σ H Q=>wi σ H fun J H1=>∀ D,H1 D=none →
 ∃ W : Nat->Nat->St->Hp->Prop,(∃ m,W 0 m (σ ++ aj k none) (upd H1 D (.lst [])))∧∀ i m σ' H',W i m σ' H' →
  (J.stop i H'∧Q (.ref D) H')∨(J.go i H'∧∃ N : St->Hp->Prop,(∀ σ'' H'',N σ'' H''->∃ m',m' < m∧W (i + 1) m' σ'' H'') ∧
   ∀ x H2,J.yld i H' x H2->g x σ' H2 fun σ2 H3=>tc σ2 H3 fun b H4=>if b=true then te σ2 H4 fun y H5=>∃ ys,H5 D=some (.lst ys)∧ys.length < sizeLine∧N σ2 (upd H5 D (.lst (ys ++ [y]))) else N σ2 H4)
structure PComp (X : Cx) (N' : List Str) (sc : Scope) (tg : Expr) (ifs : List Expr) (elt : Expr) (g : TG) (tc : TT) (te : TE) : Prop where
 pg : ∀ s H fp pins E,PG (z0I X N' sc s H fp pins E) tg g
 pt : ∀ s H fp pins E,y5M (z0I X N' sc s H fp pins E) ifs tc
 pe : ∀ s H fp pins E,PE (z0I X N' sc s H fp pins E) elt te
section
variable {X : Cx} {N' : List Str} {k : Nat} {sc : Scope} {tg iter elt : Expr} {ifs : List Expr} {pos : Pos} {g : TG} {tc : TT} {te : TE} {wi : TI}
theorem z7d {pins : List (Addr × Obj)} {σ : St} {H : Hp} {s : Shared} {J : It} {fp : List Addr} {it : Addr} {tn : Nat->Heap->Prop} {Q : VK} {E : Value->Shared->Prop} {RR : Value->Addr->Result->Shared->Prop}
  (hc : X.calm=true) (S : CompScope X.N X.env.scope.names N' k sc) (P : PComp X N' sc tg ifs elt g tc te) (I : Inv X pins σ H s) (T : Turn X.prog X.w X.K tg J fp it tn) (st : tn 0 s.heap) (hf : ∀ b∈fp,y0v X pins H b)
  (hW : ∀ D,H D=none->∃ W : Nat->Nat->St->Hp->Prop,(∃ m,W 0 m (σ ++ aj k none) (upd H D (.lst [])))∧∀ i m σ' H',W i m σ' H' →
   (J.stop i H'∧Q (.ref D) H')∨(J.go i H'∧∃ N : St->Hp->Prop,(∀ σ'' H'',N σ'' H''->∃ m',m' < m∧W (i + 1) m' σ'' H'') ∧
    ∀ x H2,J.yld i H' x H2->g x σ' H2 fun σ2 H3=>tc σ2 H3 fun b H4=>if b=true then te σ2 H4 fun y H5=>∃ ys,H5 D=some (.lst ys)∧ys.length < sizeLine∧N σ2 (upd H5 D (.lst (ys ++ [y]))) else N σ2 H4))
  (hR : ∀ D s3 H3 σ' H' s' E',Inv X pins σ H3 s3->(∀ b∈fp,y0v X pins H3 b)->Inv (z0I X N' sc s3 H3 fp pins E') [] σ' H' s'->Q (.ref D) H'->RR (.ref D) s3.heap.objs.size (.ok .next) s') :
  wpAny (model X.prog X.w) X.A (newList []) (fun acc s₃=>wpAny (model X.prog X.w) X.A (newFunctionEnv sc X.env.globals (z3x X.env.cells sc.names []) [] X.env.qual none .none (some X.env)) (fun cenv s₄=>
   codeAny (model X.prog X.w) X.A (.compStart (.ListComp elt [⟨tg,iter,ifs,0⟩] sc pos) 0 (.ref it) acc { cenv with scope:=relabel sc X.env }) (RR acc cenv.locals) s₄) E s₃) E s:=by
 obtain ⟨W,⟨m0,w0⟩,step⟩:=hW s.heap.objs.size (I.hok.fresh (ar _))
 have I3 : Inv X pins σ (upd H s.heap.objs.size (.lst [])) { s with heap:=s.heap.push { cls:=.type "list",data:=.seq ([] : List Value).toArray },toks:=s.toks }:=I.lnew (t':=s.toks) .nil (bA _)
 have lt0 : ∀ b∈fp,b < s.heap.objs.size:=fun b hb=>by
  obtain ⟨o,e,_⟩:=T.obj 0 _ st b hb
  exact Heap.lt_size e
 have hf3 : ∀ b∈fp,y0v X pins (upd H s.heap.objs.size (.lst [])) b:=fun b hb=>⟨by rw [z0t (aH (lt0 b hb))]; exact (hf b hb).1,(hf b hb).2⟩
 have lt3 : ∀ b∈fp,b < (s.heap.push { cls:=.type "list",data:=.seq ([] : List Value).toArray }).objs.size:=fun b hb=>by
  rw [Heap.size_push]
  exact bz (lt0 b hb)
 refine wpAny_newObj_type (z2K ?_)
 generalize hs3 : ({ s with heap:=s.heap.push { cls:=.type "list",data:=.seq ([] : List Value).toArray },toks:=s.toks } : Shared)=s3 at I3
 have hsh : s3.heap=s.heap.push { cls:=.type "list",data:=.seq ([] : List Value).toArray }:=by rw [← hs3]
 rw [← hsh] at lt3
 have st3 : tn 0 s3.heap:=T.keep _ _ _ st fun b _ o e=>by rw [hsh]; exact Heap.get?_push_of_some _ e
 show codeAny _ _ (.compStart _ 0 (.ref it) (.ref s.heap.objs.size) (compEnvC sc (cellsFrom (s3.heap.objs.size + 1) sc.names (z3x X.env.cells sc.names [])) s3.heap.objs.size X.env)) (RR (.ref s.heap.objs.size) s3.heap.objs.size)
  { s3 with heap:=pushCells (s3.heap.push { cls:=.type "dict",data:=.dict #[] }) sc.names }
 generalize hD : s.heap.objs.size=D at *
 generalize hEn : (notedBy (model X.prog X.w) X.A (compEnvC sc (cellsFrom (s3.heap.objs.size + 1) sc.names (z3x X.env.cells sc.names [])) s3.heap.objs.size X.env) fun e s'=>RR (.ref D) s3.heap.objs.size (.error e) s')=En
 have I4 : Inv (z0I X N' sc s3 (upd H D (.lst [])) fp pins En) [] (σ ++ aj k none) (upd H D (.lst [])) { s3 with heap:=pushCells (s3.heap.push { cls:=.type "dict",data:=.dict #[] }) sc.names }:=y6d S I3 hf3 lt3
 have st4 : tn 0 (pushCells (s3.heap.push { cls:=.type "dict",data:=.dict #[] }) sc.names):=T.keep _ _ _ st3 fun b _ o e=>pushCells_keeps _ _ _ _ (Heap.get?_push_of_some _ e)
 have stat : ∀ {H' : Hp},(∀ b∈fp,H' b=none)->∀ b∈fp,y0v (z0I X N' sc s3 (upd H D (.lst [])) fp pins En) [] H' b:=fun hn b hb=>
  ⟨hn b hb,(I4.ok.exf b hb).1,I4.ok.exfs b hb,.inl hb,(I4.ok.exf b hb).2,fun p hp=>(hf3 b hb).2.2.2.2.2 p (by
   rcases aF.mp hp with z | z
   ·exact z
   ·exact nomatch z)⟩
 have loop : codeAny (model X.prog X.w) X.A (.compLoop (.ListComp elt [⟨tg,iter,ifs,0⟩] sc pos) 0 (.ref it) (.ref D) (z0I X N' sc s3 (upd H D (.lst [])) fp pins En).env) (RR (.ref D) s3.heap.objs.size)
   { s3 with heap:=pushCells (s3.heap.push { cls:=.type "dict",data:=.dict #[] }) sc.names }:=by
  refine z9H (fun n s'=>∃ i σ' H',Inv (z0I X N' sc s3 (upd H D (.lst [])) fp pins En) [] σ' H' s'∧tn i s'.heap∧(∀ b∈fp,H' b=none)∧W i n σ' H') ?_ m0 ⟨0,_,_,I4,st4,fun b hb=>(hf3 b hb).1,w0⟩
  have eEn : (notedBy (model X.prog X.w) X.A (z0I X N' sc s3 (upd H D (.lst [])) fp pins En).env fun e s'=>RR (.ref D) s3.heap.objs.size (.error e) s')=En:=hEn
  rw [eEn]
  rintro n s5 ⟨i,σ5,H5,I5,st5,fr5,w5⟩
  rcases step i n σ5 H5 w5 with ⟨stop,qn⟩ | ⟨go,N,hN,turn⟩
  ·refine thn (T.done (z0I X N' sc s3 (upd H D (.lst [])) fp pins En) rfl rfl rfl hc i [] s5 σ5 H5 En I5 (stat fr5) st5 stop) fun r s6 ⟨hr,I6⟩=>?_
   subst hr
   exact hR D s3 _ σ5 H5 s6 En I3 hf3 I6 qn
  ·refine thn (T.item (z0I X N' sc s3 (upd H D (.lst [])) fp pins En) rfl rfl rfl hc i [] s5 σ5 H5 En I5 (stat fr5) st5 go) fun r s6 ⟨u,hr,h6⟩=>?_
   subst hr
   refine thn h6 fun _ s7 ⟨x,H7,I7,r7,y7,st7,fr7⟩=>?_
   have I7':=I7.pinned (stat fr7) (T.obj _ _ st7)
   have back : ∀ {σ9 : St} {H9 : Hp} {s9 : Shared},Inv (z0I X N' sc s3 (upd H D (.lst [])) fp pins En) ([] ++ z9D fp s7.heap) σ9 H9 s9->N σ9 H9 →
     ∃ m,m < n∧∃ i σ' H',Inv (z0I X N' sc s3 (upd H D (.lst [])) fp pins En) [] σ' H' s9∧tn i s9.heap∧(∀ b∈fp,H' b=none)∧W i m σ' H':=fun {σ9 H9 s9} I9 n9=>by
    obtain ⟨m',hm,w9⟩:=hN σ9 H9 n9
    refine ⟨m',hm,i + 1,σ9,H9,I9.unpinned,T.keep _ _ _ st7 fun b hb o e=>(I9.pin (b,o) (aW _ (aW _ (z3W hb e)))).1,fun b hb=>?_,w9⟩
    obtain ⟨o,e,d⟩:=T.obj _ _ st7 b hb
    exact (I9.pin (b,o) (aW _ (aW _ (z3W hb e)))).2.1
   refine thn (P.pg s3 _ fp pins En _ s7 σ5 H7 x u _ I7' r7 (turn x H7 y7)) fun _ s8 ⟨σ8,H8,I8,q8⟩=>?_
   refine thn (P.pt s3 _ fp pins En _ s8 σ8 H8 _ I8 q8) fun ok s9 ⟨H9,I9,q9⟩=>?_
   cases ok with
   | false=>
    rw [if_neg ao] at q9
    rw [if_neg ao]
    exact back I9 q9
   | true=>
    rw [if_pos rfl] at q9
    rw [if_pos rfl]
    refine thn (P.pe s3 _ fp pins En _ s9 σ8 H9 _ I9 q9) fun y s10 ⟨yv,H10,I10,r10,ys,hys,hl,q10⟩=>?_
    refine thn (z4T _ s10 σ8 H10 (.ref D) [yv] (.ref D) [y] (fun _ H'=>N σ8 H') I10 rfl (.cons r10 .nil) ⟨D,ys,yv,rfl,rfl,hys,hl,q10⟩) fun _ s11 ⟨_,H11,I11,_,q11⟩=>?_
    exact back I11 q11
 exact codeAny_compStart_list loop (T.self X.A 0 _ _ _ st4 loop)
theorem CompScope.names' {N : List Str} {out : List (Str × NameKind)} (S : CompScope N out N' k sc) : ∀ x∈sc.names,x.2 = .local->sc.names.lookup x.1=some .local:=fun x hx e=>by
 obtain ⟨n,kd⟩:=x
 have e' : kd = .local:=e
 subst e'
 exact S.look hx
theorem y0p (hc : X.calm=true) (S : CompScope X.N X.env.scope.names N' k sc) (hi : PI X tg iter wi) (P : PComp X N' sc tg ifs elt g tc te) (hs : ∀ x,foldedSetIterable iter X.env x=pure x:=by intro _; rfl) :
  PE X (.ListComp elt [⟨tg,iter,ifs,0⟩] sc pos) (y5F wi g tc te k):=by
 intro pins s σ H Q I h
 rw [eval_ListComp]
 refine wpAny_comprehension_free (use:=none) rfl hs (z3B fun n hn=>I.ok.has n (S.fr hn)) S.kind S.names' (thn (hi pins s σ H _ I h) fun v s1 h1=>thn h1 fun itv s2 h2=>?_)
 obtain ⟨it,fp,tn,J,H2,e,I2,T,st2,f2,hW⟩:=h2
 subst e
 refine z7d (Q:=Q) (RR:=fun acc C=>compPost (model X.prog X.w) X.A X.xe none (EP X pins σ Q) acc C) hc S P I2 T st2 f2 hW ?_
 intro D s3 H3 σ' H' s' E' I3 f3 J' q
 obtain ⟨m,hn,_⟩:=J'.loc
 exact ⟨m,hn,fun h' hb=>⟨.ref D,H',y5m I3 (z8I I3 f3 J') J'.free hb,rfl,q⟩⟩
theorem y4Z {i : Nat} {y : Str} {py spos : Pos} (hc : X.calm=true) (S : CompScope X.N X.env.scope.names N' k sc) (hN : X.N.Nodup) (hy : X.N[i]? = some y) (hyl : X.env.scope.names.lookup y=some .local) (hi : PI X tg iter wi) (P : PComp X N' sc tg ifs elt g tc te)
  (hsw : swapsWith (.ListComp elt [⟨tg,iter,ifs,0⟩] sc pos) (some (.Name y py)) spos.line X.env=pure true:=by rfl) (hs : ∀ x,foldedSetIterable iter X.env x=pure x:=by intro _; rfl) :
  PS X (.Assign [.Name y py] (.ListComp elt [⟨tg,iter,ifs,0⟩] sc pos) spos) (tAsg (y5F wi g tc te k) (z2A i)):=by
 intro pins s σ H D I h
 rw [exec_Assign_Name_used _ _ _ _ hsw]
 refine wpAny_bind (wpAny_standAt (wpAny_bind ?_))
 show wpAny _ X.A (do let _ ← comprehension (.ListComp elt [⟨tg,iter,ifs,0⟩] sc pos) sc X.env _ (newList []) false (eval iter X.env) (some (assign (.Name y py) X.env))) _ _ s
 refine wpAny_bind (wpAny_mono (wpAny_comprehension_free (use:=some (assign (.Name y py) X.env)) (Q:=fun _ s'=>SP X pins D .next s') rfl hs (z3B fun n hn=>I.ok.has n (S.fr hn)) S.kind S.names'
  (thn (hi pins s σ H _ I h) fun v s1 h1=>thn h1 fun itv s2 h2=>?_)) (fun _ s' hq=>wpAny_pure (wpAny_pure hq)) fun _ _ e=>e)
 obtain ⟨it,fp,tn,J,H2,e,I2,T,st2,f2,hW⟩:=h2
 subst e
 refine z7d (Q:=fun v H'=>D.nx (σ.set i (some v)) H') (RR:=fun acc C=>compPost (model X.prog X.w) X.A X.xe (some (assign (.Name y py) X.env)) (fun _ s'=>SP X pins D .next s') acc C) hc S P I2 T st2 f2 hW ?_
 intro a s3 H3 σ' H' s' E' I3 f3 J' q
 have J2:=z8I I3 f3 J'
 obtain ⟨m,hn,_⟩:=J'.loc
 show wpAny _ X.A (assign (.Name y py) X.env (.ref a)) _ _ _
 refine wpAny_assign_Name (z9k J2 hN hy (.inl hyl) (v:=.ref a) rfl (fun s4 I4 hsb=>?_) (.inr hyl))
 obtain ⟨b,hb,hb'⟩:=hsb
 have hne : b≠s3.heap.objs.size:=by
  rcases hb' with z | z
  ·rw [z]; exact aH I3.lt
  ·obtain ⟨v,w'⟩:=I3.cell y b z
   exact aH w'.lt
 refine ⟨m,hn.sameBut hb (Ne.symm hne),fun h' hb2=>⟨_,H',?_,q⟩⟩
 have I3' : Inv X pins (σ.set i (some (.ref a))) H3 s3∨True:=.inr trivial
 refine I4.turned (t':=s4.toks) (it:=s3.heap.objs.size) (fun b o hne e=>(hb2.2 b hne).trans e) J'.free (cz I3.lt) (.inr I3.sz) (fun x c e=>?_) fun p hp=>?_
 ·obtain ⟨v,q⟩:=I3.cell x c e
  exact aH q.lt
 ·exact aH (Heap.lt_size (I3.pin p hp).1)
end
end L2
namespace L2
open PySem PySem.Spec PyProof.Rows
inductive D where
 | non | bl (b : Bool) | int (i : Int) | str (x : Str) | lst (xs : List D) | tup (xs : List D) | scr (ns : List Int) | dct (ks : List Key) (xs : List D) | exc (x : Str)
noncomputable def y4H (K : aa) (C : Addr) : Bool:=bd K (.ref C) "__getattribute__" == some (some (.builtin "BaseException.__getattribute__")) && bd K (.ref C) "__getattr__" == some none && bW K C (.type "BaseException") == some true && (dz K C).isSome && bd K (.ref C) "__class__" == some (some (.builtin "object.__class__")) &&
 cB K (.builtin "object.__class__") "__get__" == some (some (.builtin "getset_descriptor.__get__")) && cZ K (.builtin "object.__class__") == some true && bW K C (.type "object") == some true &&
 ["bool", "int", "str", "list", "tuple", "dict"].all fun T=>df K (.ref C) (.type T) == some false
noncomputable def isX (a C : Addr) (h : Heap) : Prop:=∃ o,h.get? a=some o∧o.cls = .ref C∧o.dict=none∧PySem.W.notCls o=true
noncomputable def SqF (K : aa) (H : Hp) (a : Addr) (xs : List V) : Prop:=
 (∃ o,H a=some (.frz o (.lst xs)))∨∃ (o : Obj) (its : Array Value) (n : Nat),K.lookup a=some o∧o.cls = .type "list" ∧ o.dict=none∧o.data = .seq its n∧its.size≤sizeLine∧Vals xs its.toList
theorem SqF.sq {K : aa} {H : Hp} {a : Addr} {xs : List V} (h : SqF K H a xs) : SqL K H a xs:=h.elim (fun z=>.inl (.inr z)) .inr
mutual
def Rep (K : aa) (H : Hp) (B : Addr->Prop) : D->V->Prop
 | .non,v=>v = .non
 | .bl b,v=>v = .bl b
 | .int i,v=>v = .int i
 | .str x,v=>v = .str x
 | .lst ds,v=>∃ a xs,v = .ref a∧¬ B a∧H a=some (.lst xs)∧Reps K H B ds xs
 | .tup ds,v=>∃ a xs,v = .ref a∧SqT K H a xs∧Reps K H B ds xs
 | .scr ns,v=>∃ a,v = .ref a∧SqF K H a (ns.map V.int)
 | .dct ks ds,v=>∃ a kvs,v = .ref a∧¬ B a∧H a=some (.dK kvs)∧kvs.map (·.1)=ks∧Reps K H B ds (kvs.map (·.2))
 | .exc x,v=>∃ a C,v = .ref a∧¬ B a∧H a=some (.ext (isX a C))∧au K mainGlobals x=some (some (.ref C))∧y4H K C=true
def Reps (K : aa) (H : Hp) (B : Addr->Prop) : List D->List V->Prop
 | [],xs=>xs=[]
 | d :: ds,xs=>∃ x r,xs=x :: r∧Rep K H B d x∧Reps K H B ds r
end
mutual
def Tree (K : aa) (H : Hp) : D->V->List Addr->Prop
 | .non,v,A=>v = .non∧A=[]
 | .bl b,v,A=>v = .bl b∧A=[]
 | .int i,v,A=>v = .int i∧A=[]
 | .str x,v,A=>v = .str x∧A=[]
 | .lst ds,v,A=>∃ a xs B,v = .ref a∧H a=some (.lst xs)∧Trees K H ds xs B∧A=a :: B
 | .tup ds,v,A=>∃ a xs,v = .ref a∧SqT K H a xs∧Trees K H ds xs A
 | .scr ns,v,A=>(∃ a,v = .ref a∧SqF K H a (ns.map V.int))∧A=[]
 | .dct ks ds,v,A=>∃ a kvs B,v = .ref a∧H a=some (.dK kvs)∧kvs.map (·.1)=ks∧Trees K H ds (kvs.map (·.2)) B∧A=a :: B
 | .exc x,v,A=>∃ a C,v = .ref a∧H a=some (.ext (isX a C))∧au K mainGlobals x=some (some (.ref C))∧y4H K C=true∧A=[a]
def Trees (K : aa) (H : Hp) : List D->List V->List Addr->Prop
 | [],xs,A=>xs=[]∧A=[]
 | d :: ds,xs,A=>∃ x r B C,xs=x :: r∧Tree K H d x B∧Trees K H ds r C∧A=B ++ C
end
mutual
def D.imm : D->Bool
 | .non=>true
 | .bl _=>true
 | .int _=>true
 | .str _=>true
 | .lst _=>false
 | .tup ds=>z2l ds
 | .scr _=>true
 | .dct _ _=>false
 | .exc _=>false
def z2l : List D->Bool
 | []=>true
 | d :: ds=>d.imm && z2l ds
end
theorem Same.tup {K : aa} {H H' : Hp} {a : Addr} {xs : List V} (e : Same H H') (h : SqT K H a xs) : SqT K H' a xs:=by
 rcases h with (h | ⟨o,h⟩) | h
 ·exact .inl (.inl (e _ _ h))
 ·exact .inl (.inr ⟨o,e _ _ h⟩)
 ·exact .inr h
section
variable {K : aa} {H H' : Hp} {B B' : Addr->Prop}
structure KeepI (K : aa) (H H' : Hp) : Prop where
 st : ∀ a xs,SqT K H a xs->SqT K H' a xs
 sf : ∀ a xs,SqF K H a xs->SqF K H' a xs
structure Keep (K : aa) (B : Addr->Prop) (H H' : Hp) : Prop where
 sl : ∀ a xs,¬ B a->H a=some (.lst xs)->H' a=some (.lst xs)
 st : ∀ a xs,SqT K H a xs->SqT K H' a xs
 sf : ∀ a xs,SqF K H a xs->SqF K H' a xs
 sd : ∀ a kvs,¬ B a->H a=some (.dK kvs)->H' a=some (.dK kvs)
 sx : ∀ a φ,¬ B a->H a=some (.ext φ)->H' a=some (.ext φ)
theorem Keep.i (k : Keep K B H H') : KeepI K H H':=⟨k.st,k.sf⟩
mutual
theorem Rep.keep (k : Keep K B H H') : ∀ (d : D) {v : V},Rep K H B d v->Rep K H' B d v
 | .non,_,h=>h
 | .bl _,_,h=>h
 | .int _,_,h=>h
 | .str _,_,h=>h
 | .lst ds,_,h=>by
  unfold Rep at h ⊢
  obtain ⟨a,xs,e,n,s,r⟩:=h
  exact ⟨a,xs,e,n,k.sl a xs n s,Reps.keep k ds r⟩
 | .tup ds,_,h=>by
  unfold Rep at h ⊢
  obtain ⟨a,xs,e,s,r⟩:=h
  exact ⟨a,xs,e,k.st a xs s,Reps.keep k ds r⟩
 | .scr ns,_,h=>by
  unfold Rep at h ⊢
  obtain ⟨a,e,s⟩:=h
  exact ⟨a,e,k.sf a _ s⟩
 | .dct ks ds,_,h=>by
  unfold Rep at h ⊢
  obtain ⟨a,kvs,e,n,s,q,r⟩:=h
  exact ⟨a,kvs,e,n,k.sd a kvs n s,q,Reps.keep k ds r⟩
 | .exc _,_,h=>by
  unfold Rep at h ⊢
  obtain ⟨a,C,e,n,s,r⟩:=h
  exact ⟨a,C,e,n,k.sx a _ n s,r⟩
theorem Reps.keep (k : Keep K B H H') : ∀ (ds : List D) {xs : List V},Reps K H B ds xs->Reps K H' B ds xs
 | [],_,h=>h
 | d :: ds,_,h=>by
  unfold Reps at h ⊢
  obtain ⟨x,r,e,h1,h2⟩:=h
  exact ⟨x,r,e,Rep.keep k d h1,Reps.keep k ds h2⟩
end
mutual
theorem Rep.anti (hb : ∀ a,B' a->B a) : ∀ (d : D) {v : V},Rep K H B d v->Rep K H B' d v
 | .non,_,h=>h
 | .bl _,_,h=>h
 | .int _,_,h=>h
 | .str _,_,h=>h
 | .lst ds,_,h=>by
  unfold Rep at h ⊢
  obtain ⟨a,xs,e,n,s,r⟩:=h
  exact ⟨a,xs,e,fun z=>n (hb a z),s,Reps.anti hb ds r⟩
 | .tup ds,_,h=>by
  unfold Rep at h ⊢
  obtain ⟨a,xs,e,s,r⟩:=h
  exact ⟨a,xs,e,s,Reps.anti hb ds r⟩
 | .scr _,_,h=>h
 | .dct ks ds,_,h=>by
  unfold Rep at h ⊢
  obtain ⟨a,kvs,e,n,s,q,r⟩:=h
  exact ⟨a,kvs,e,fun z=>n (hb a z),s,q,Reps.anti hb ds r⟩
 | .exc _,_,h=>by
  unfold Rep at h ⊢
  obtain ⟨a,C,e,n,r⟩:=h
  exact ⟨a,C,e,fun z=>n (hb a z),r⟩
theorem Reps.anti (hb : ∀ a,B' a->B a) : ∀ (ds : List D) {xs : List V},Reps K H B ds xs->Reps K H B' ds xs
 | [],_,h=>h
 | d :: ds,_,h=>by
  unfold Reps at h ⊢
  obtain ⟨x,r,e,h1,h2⟩:=h
  exact ⟨x,r,e,Rep.anti hb d h1,Reps.anti hb ds h2⟩
end
mutual
theorem Rep.imm : ∀ (d : D) {v : V},d.imm=true->Rep K H B d v->Rep K H B' d v
 | .non,_,_,h=>h
 | .bl _,_,_,h=>h
 | .int _,_,_,h=>h
 | .str _,_,_,h=>h
 | .lst _,_,i,_=>by unfold D.imm at i; cases i
 | .dct _ _,_,i,_=>by unfold D.imm at i; cases i
 | .exc _,_,i,_=>by unfold D.imm at i; cases i
 | .tup ds,_,i,h=>by
  unfold D.imm at i
  unfold Rep at h ⊢
  obtain ⟨a,xs,e,s,r⟩:=h
  exact ⟨a,xs,e,s,Reps.imm ds i r⟩
 | .scr _,_,_,h=>h
theorem Reps.imm : ∀ (ds : List D) {xs : List V},z2l ds=true->Reps K H B ds xs->Reps K H B' ds xs
 | [],_,_,h=>h
 | d :: ds,_,i,h=>by
  unfold z2l at i
  rw [aJ] at i
  unfold Reps at h ⊢
  obtain ⟨x,r,e,h1,h2⟩:=h
  exact ⟨x,r,e,Rep.imm d i.1 h1,Reps.imm ds i.2 h2⟩
end
mutual
theorem Rep.immTree : ∀ (d : D) {v : V},d.imm=true->Rep K H B d v->Tree K H d v []
 | .non,_,_,h=>⟨h,rfl⟩
 | .bl _,_,_,h=>⟨h,rfl⟩
 | .int _,_,_,h=>⟨h,rfl⟩
 | .str _,_,_,h=>⟨h,rfl⟩
 | .lst _,_,i,_=>by unfold D.imm at i; cases i
 | .dct _ _,_,i,_=>by unfold D.imm at i; cases i
 | .exc _,_,i,_=>by unfold D.imm at i; cases i
 | .tup ds,_,i,h=>by
  unfold D.imm at i
  unfold Rep at h
  unfold Tree
  obtain ⟨a,xs,e,s,r⟩:=h
  exact ⟨a,xs,e,s,Reps.immTree ds i r⟩
 | .scr _,_,_,h=>⟨h,rfl⟩
theorem Reps.immTree : ∀ (ds : List D) {xs : List V},z2l ds=true->Reps K H B ds xs->Trees K H ds xs []
 | [],_,_,h=>⟨h,rfl⟩
 | d :: ds,_,i,h=>by
  unfold z2l at i
  rw [aJ] at i
  unfold Reps at h
  unfold Trees
  obtain ⟨x,r,e,h1,h2⟩:=h
  exact ⟨x,r,[],[],e,Rep.immTree d i.1 h1,Reps.immTree ds i.2 h2,rfl⟩
end
mutual
theorem Tree.rep : ∀ (d : D) {v : V} {A : List Addr},Tree K H d v A->(∀ a∈A,¬ B a)->Rep K H B d v
 | .non,_,_,h,_=>h.1
 | .bl _,_,_,h,_=>h.1
 | .int _,_,_,h,_=>h.1
 | .str _,_,_,h,_=>h.1
 | .lst ds,_,_,h,n=>by
  unfold Tree at h
  unfold Rep
  obtain ⟨a,xs,C,e,s,r,rfl⟩:=h
  exact ⟨a,xs,e,n a ah,s,Trees.rep ds r fun b hb=>n b (ak _ hb)⟩
 | .tup ds,_,_,h,n=>by
  unfold Tree at h
  unfold Rep
  obtain ⟨a,xs,e,s,r⟩:=h
  exact ⟨a,xs,e,s,Trees.rep ds r n⟩
 | .scr _,_,_,h,_=>h.1
 | .dct ks ds,_,_,h,n=>by
  unfold Tree at h
  unfold Rep
  obtain ⟨a,kvs,C,e,s,q,r,rfl⟩:=h
  exact ⟨a,kvs,e,n a ah,s,q,Trees.rep ds r fun b hb=>n b (ak _ hb)⟩
 | .exc _,_,_,h,n=>by
  unfold Tree at h
  unfold Rep
  obtain ⟨a,C,e,s,r1,r2,rfl⟩:=h
  exact ⟨a,C,e,n a ah,s,r1,r2⟩
theorem Trees.rep : ∀ (ds : List D) {xs : List V} {A : List Addr},Trees K H ds xs A->(∀ a∈A,¬ B a)->Reps K H B ds xs
 | [],_,_,h,_=>h.1
 | d :: ds,_,_,h,n=>by
  unfold Trees at h
  unfold Reps
  obtain ⟨x,r,C,C',e,h1,h2,rfl⟩:=h
  exact ⟨x,r,e,Tree.rep d h1 fun b hb=>n b (bO _ hb),Trees.rep ds h2 fun b hb=>n b (aW _ hb)⟩
end
mutual
theorem Tree.keep (kt : KeepI K H H') : ∀ (d : D) {v : V} {A : List Addr},Tree K H d v A->(∀ a∈A,∀ o,H a=some o->H' a=some o)->Tree K H' d v A
 | .non,_,_,h,_=>h
 | .bl _,_,_,h,_=>h
 | .int _,_,_,h,_=>h
 | .str _,_,_,h,_=>h
 | .lst ds,_,_,h,n=>by
  unfold Tree at h ⊢
  obtain ⟨a,xs,C,e,s,r,rfl⟩:=h
  exact ⟨a,xs,C,e,n a ah _ s,Trees.keep kt ds r fun b hb=>n b (ak _ hb),rfl⟩
 | .tup ds,_,_,h,n=>by
  unfold Tree at h ⊢
  obtain ⟨a,xs,e,s,r⟩:=h
  exact ⟨a,xs,e,kt.st a xs s,Trees.keep kt ds r n⟩
 | .scr _,_,_,h,_=>by
  unfold Tree at h ⊢
  obtain ⟨⟨a,e,s⟩,q⟩:=h
  exact ⟨⟨a,e,kt.sf a _ s⟩,q⟩
 | .dct ks ds,_,_,h,n=>by
  unfold Tree at h ⊢
  obtain ⟨a,kvs,C,e,s,q,r,rfl⟩:=h
  exact ⟨a,kvs,C,e,n a ah _ s,q,Trees.keep kt ds r fun b hb=>n b (ak _ hb),rfl⟩
 | .exc _,_,_,h,n=>by
  unfold Tree at h ⊢
  obtain ⟨a,C,e,s,r1,r2,rfl⟩:=h
  exact ⟨a,C,e,n a ah _ s,r1,r2,rfl⟩
theorem Trees.keep (kt : KeepI K H H') : ∀ (ds : List D) {xs : List V} {A : List Addr},Trees K H ds xs A->(∀ a∈A,∀ o,H a=some o->H' a=some o)->Trees K H' ds xs A
 | [],_,_,h,_=>h
 | d :: ds,_,_,h,n=>by
  unfold Trees at h ⊢
  obtain ⟨x,r,C,C',e,h1,h2,rfl⟩:=h
  exact ⟨x,r,C,C',e,Tree.keep kt d h1 fun b hb=>n b (bO _ hb),Trees.keep kt ds h2 fun b hb=>n b (aW _ hb),rfl⟩
end
mutual
theorem Tree.held : ∀ (d : D) {v : V} {A : List Addr},Tree K H d v A->∀ a∈A,∃ o,H a=some o∧Mut (some o)
 | .non,_,_,h,a,ha=>by rw [h.2] at ha; cases ha
 | .bl _,_,_,h,a,ha=>by rw [h.2] at ha; cases ha
 | .int _,_,_,h,a,ha=>by rw [h.2] at ha; cases ha
 | .str _,_,_,h,a,ha=>by rw [h.2] at ha; cases ha
 | .lst ds,_,_,h,b,hb=>by
  unfold Tree at h
  obtain ⟨a,xs,C,e,s,r,rfl⟩:=h
  rcases ai.mp hb with z | z
  ·subst z; exact ⟨_,s,trivial⟩
  ·exact Trees.held ds r b z
 | .tup ds,_,_,h,b,hb=>by
  unfold Tree at h
  obtain ⟨a,xs,e,s,r⟩:=h
  exact Trees.held ds r b hb
 | .scr _,_,_,h,a,ha=>by rw [h.2] at ha; cases ha
 | .dct ks ds,_,_,h,b,hb=>by
  unfold Tree at h
  obtain ⟨a,kvs,C,e,s,q,r,rfl⟩:=h
  rcases ai.mp hb with z | z
  ·subst z; exact ⟨_,s,trivial⟩
  ·exact Trees.held ds r b z
 | .exc _,_,_,h,b,hb=>by
  unfold Tree at h
  obtain ⟨a,C,e,s,r1,r2,rfl⟩:=h
  rw [am.mp hb]
  exact ⟨_,s,trivial⟩
theorem Trees.held : ∀ (ds : List D) {xs : List V} {A : List Addr},Trees K H ds xs A->∀ a∈A,∃ o,H a=some o∧Mut (some o)
 | [],_,_,h,a,ha=>by rw [h.2] at ha; cases ha
 | d :: ds,_,_,h,b,hb=>by
  unfold Trees at h
  obtain ⟨x,r,C,C',e,h1,h2,rfl⟩:=h
  rcases aF.mp hb with z | z
  ·exact Tree.held d h1 b z
  ·exact Trees.held ds h2 b z
end
theorem Same.sf (e : Same H H') {a : Addr} {xs : List V} (h : SqF K H a xs) : SqF K H' a xs:=h.elim (fun ⟨o,z⟩=>.inl ⟨o,e _ _ z⟩) .inr
theorem Keep.same (e : Same H H') : Keep K B H H':=⟨fun _ _ _ h=>e _ _ h,fun _ _ h=>e.tup h,fun _ _ h=>e.sf h,fun _ _ _ h=>e _ _ h,fun _ _ _ h=>e _ _ h⟩
theorem KeepI.same (e : Same H H') : KeepI K H H':=⟨fun _ _ h=>e.tup h,fun _ _ h=>e.sf h⟩
theorem Rep.mono {d : D} {v : V} (h : Rep K H B d v) (e : Same H H') : Rep K H' B d v:=Rep.keep (.same e) d h
theorem Reps.mono {ds : List D} {xs : List V} (h : Reps K H B ds xs) (e : Same H H') : Reps K H' B ds xs:=Reps.keep (.same e) ds h
theorem Tree.mono {d : D} {v : V} {A : List Addr} (h : Tree K H d v A) (e : Same H H') : Tree K H' d v A:=Tree.keep (.same e) d h fun a _ o z=>e a o z
theorem Trees.mono {ds : List D} {v : List V} {A : List Addr} (h : Trees K H ds v A) (e : Same H H') : Trees K H' ds v A:=Trees.keep (.same e) ds h fun a _ o z=>e a o z
mutual
theorem Rep.wide {C : Addr->Prop} (hc : ∀ a,C a->H a=none) : ∀ (d : D) {v : V},Rep K H B d v->Rep K H (fun a=>B a∨C a) d v
 | .non,_,h=>h
 | .bl _,_,h=>h
 | .int _,_,h=>h
 | .str _,_,h=>h
 | .lst ds,_,h=>by
  unfold Rep at h ⊢
  obtain ⟨a,xs,e,n,s,r⟩:=h
  refine ⟨a,xs,e,fun z=>z.elim n fun z=>?_,s,Reps.wide hc ds r⟩
  rw [hc a z] at s; cases s
 | .tup ds,_,h=>by
  unfold Rep at h ⊢
  obtain ⟨a,xs,e,s,r⟩:=h
  exact ⟨a,xs,e,s,Reps.wide hc ds r⟩
 | .scr _,_,h=>h
 | .dct ks ds,_,h=>by
  unfold Rep at h ⊢
  obtain ⟨a,kvs,e,n,s,q,r⟩:=h
  refine ⟨a,kvs,e,fun z=>z.elim n fun z=>?_,s,q,Reps.wide hc ds r⟩
  rw [hc a z] at s; cases s
 | .exc _,_,h=>by
  unfold Rep at h ⊢
  obtain ⟨a,C,e,n,s,r⟩:=h
  refine ⟨a,C,e,fun z=>z.elim n fun z=>?_,s,r⟩
  rw [hc a z] at s; cases s
theorem Reps.wide {C : Addr->Prop} (hc : ∀ a,C a->H a=none) : ∀ (ds : List D) {xs : List V},Reps K H B ds xs->Reps K H (fun a=>B a∨C a) ds xs
 | [],_,h=>h
 | d :: ds,_,h=>by
  unfold Reps at h ⊢
  obtain ⟨x,r,e,h1,h2⟩:=h
  exact ⟨x,r,e,Rep.wide hc d h1,Reps.wide hc ds h2⟩
end
theorem Keep.upd {a : Addr} {o : HO} (hb : B a) (mu : Mut (H a)) : Keep K B H (upd H a o):=by
 refine ⟨fun b xs n h=>?_,fun b xs h=>?_,fun b xs h=>?_,fun b kvs n h=>?_,fun b φ n h=>?_⟩
 ·have ne : b≠a:=fun z=>n (z ▸ hb)
  rw [z0t ne]; exact h
 ·rcases h with (h | ⟨u,h⟩) | h
  ·have ne : b≠a:=fun z=>by subst z; rw [h] at mu; exact mu
   exact .inl (.inl (by rw [z0t ne]; exact h))
  ·have ne : b≠a:=fun z=>by subst z; rw [h] at mu; exact mu
   exact .inl (.inr ⟨u,by rw [z0t ne]; exact h⟩)
  ·exact .inr h
 ·rcases h with ⟨u,h⟩ | h
  ·have ne : b≠a:=fun z=>by subst z; rw [h] at mu; exact mu
   exact .inl ⟨u,by rw [z0t ne]; exact h⟩
  ·exact .inr h
 ·have ne : b≠a:=fun z=>n (z ▸ hb)
  rw [z0t ne]; exact h
 ·have ne : b≠a:=fun z=>n (z ▸ hb)
  rw [z0t ne]; exact h
theorem z0r {a : Addr} {o : HO} (h : H a=none) : Same H (upd H a o):=fun b u e=>by rw [z0t (z1q e h)]; exact e
theorem Reps.length : ∀ {ds : List D} {xs : List V},Reps K H B ds xs->ds.length=xs.length
 | [],_,h=>by unfold Reps at h; subst h; rfl
 | d :: ds,_,h=>by
  unfold Reps at h
  obtain ⟨x,r,rfl,_,h2⟩:=h
  simp [Reps.length h2]
theorem Reps.get : ∀ {ds : List D} {xs : List V} {i : Nat} {d : D},Reps K H B ds xs->ds[i]? = some d->∃ x,xs[i]? = some x∧Rep K H B d x
 | [],_,_,_,_,e=>by simp at e
 | d :: ds,_,i,d',h,e=>by
  unfold Reps at h
  obtain ⟨x,r,rfl,h1,h2⟩:=h
  cases i with
  | zero=>simp at e; subst e; exact ⟨x,rfl,h1⟩
  | succ i=>simpa using Reps.get (i:=i) h2 (by simpa using e)
theorem Reps.get' : ∀ {ds : List D} {xs : List V} {i : Nat} {x : V},Reps K H B ds xs->xs[i]? = some x->∃ d,ds[i]? = some d∧Rep K H B d x
 | [],_,_,_,h,e=>by unfold Reps at h; subst h; simp at e
 | d :: ds,_,i,x',h,e=>by
  unfold Reps at h
  obtain ⟨x,r,rfl,h1,h2⟩:=h
  cases i with
  | zero=>simp at e; subst e; exact ⟨d,rfl,h1⟩
  | succ i=>simpa using Reps.get' (i:=i) h2 (by simpa using e)
theorem Reps.append : ∀ {ds es : List D} {xs ys : List V},Reps K H B ds xs->Reps K H B es ys->Reps K H B (ds ++ es) (xs ++ ys)
 | [],_,_,_,h,h'=>by unfold Reps at h; subst h; exact h'
 | d :: ds,es,_,ys,h,h'=>by
  unfold Reps at h
  obtain ⟨x,r,rfl,h1,h2⟩:=h
  exact (show Reps K H B (d :: (ds ++ es)) (x :: (r ++ ys)) by unfold Reps; exact ⟨x,r ++ ys,rfl,h1,Reps.append h2 h'⟩)
theorem Reps.take : ∀ {ds : List D} {xs : List V} (n : Nat),Reps K H B ds xs->Reps K H B (ds.take n) (xs.take n)
 | _,_,0,_=>by rw [cO,cO]; unfold Reps; rfl
 | [],_,_ + 1,h=>by unfold Reps at h; subst h; unfold Reps; rfl
 | d :: ds,_,n + 1,h=>by
  unfold Reps at h
  obtain ⟨x,r,rfl,h1,h2⟩:=h
  rw [cv,cv]
  unfold Reps
  exact ⟨x,_,rfl,h1,Reps.take n h2⟩
theorem Reps.drop : ∀ {ds : List D} {xs : List V} (n : Nat),Reps K H B ds xs->Reps K H B (ds.drop n) (xs.drop n)
 | _,_,0,h=>h
 | [],_,_ + 1,h=>by unfold Reps at h; subst h; unfold Reps; rfl
 | d :: ds,_,n + 1,h=>by
  unfold Reps at h
  obtain ⟨x,r,rfl,h1,h2⟩:=h
  exact Reps.drop n h2
theorem Reps.one {d : D} {x : V} (h : Rep K H B d x) : Reps K H B [d] [x]:=by unfold Reps; exact ⟨x,[],rfl,h,by unfold Reps; rfl⟩
theorem Reps.nil : Reps K H B [] []:=by unfold Reps; rfl
theorem Reps.cons {d : D} {x : V} {ds : List D} {xs : List V} (h : Rep K H B d x) (h' : Reps K H B ds xs) : Reps K H B (d :: ds) (x :: xs):=by unfold Reps; exact ⟨x,xs,rfl,h,h'⟩
theorem Reps.snoc {d : D} {x : V} {ds : List D} {xs : List V} (h' : Reps K H B ds xs) (h : Rep K H B d x) : Reps K H B (ds ++ [d]) (xs ++ [x]):=h'.append (.one h)
theorem Trees.nil : Trees K H [] [] []:=⟨rfl,rfl⟩
theorem Trees.snoc : ∀ {ds : List D} {xs : List V} {A C : List Addr} {d : D} {x : V},Trees K H ds xs A->Tree K H d x C->Trees K H (ds ++ [d]) (xs ++ [x]) (A ++ C)
 | [],_,_,C,d,x,h,h'=>by
  obtain ⟨rfl,rfl⟩:=h
  exact (show Trees K H [d] [x] C by unfold Trees; exact ⟨x,[],C,[],rfl,h',⟨rfl,rfl⟩,(aL _).symm⟩)
 | e :: ds,_,_,C,d,x,h,h'=>by
  unfold Trees at h
  obtain ⟨y,r,A1,A2,rfl,h1,h2,rfl⟩:=h
  exact (show Trees K H (e :: (ds ++ [d])) (y :: (r ++ [x])) (A1 ++ A2 ++ C) by unfold Trees; exact ⟨y,_,A1,A2 ++ C,rfl,h1,Trees.snoc h2 h',aZ _ _ _⟩)
end
end L2
namespace L2
open PySem PySem.Spec PyProof.Rows
noncomputable abbrev DS:=List (Option D)
noncomputable abbrev DE:=DS->Option D
structure RepS (K : aa) (H : Hp) (B : Addr->Prop) (σ : St) (δ : DS) : Prop where
 len : δ.length=σ.length
 get : ∀ (i : Nat) (d : D),δ[i]? = some (some d)->∃ v,σ[i]? = some (some v)∧Rep K H B d v
noncomputable def InB (B : Addr->Prop) (H : Hp) : Prop:=∀ a,B a->∃ o,H a=some o
noncomputable def noB : Addr->Prop:=fun _=>False
theorem InB.mono {B : Addr->Prop} {H H' : Hp} (h : InB B H) (e : Same H H') : InB B H':=fun a b=>let ⟨o,q⟩:=h a b; ⟨o,e a o q⟩
theorem InB.no {H : Hp} : InB noB H:=fun _ b=>b.elim
theorem InB.fresh {B : Addr->Prop} {H : Hp} (h : InB B H) {a : Addr} (e : H a=none) : ¬ B a:=fun b=>by
 obtain ⟨o,q⟩:=h a b
 rw [e] at q; cases q
theorem RepS.mono {K : aa} {H H' : Hp} {B : Addr->Prop} {σ : St} {δ : DS} (h : RepS K H B σ δ) (e : Same H H') : RepS K H' B σ δ:=
 ⟨h.len,fun i d q=>let ⟨v,a,r⟩:=h.get i d q; ⟨v,a,r.mono e⟩⟩
theorem RepS.anti {K : aa} {H : Hp} {B B' : Addr->Prop} {σ : St} {δ : DS} (h : RepS K H B σ δ) (e : ∀ a,B' a->B a) : RepS K H B' σ δ:=
 ⟨h.len,fun i d q=>let ⟨v,a,r⟩:=h.get i d q; ⟨v,a,r.anti e⟩⟩
noncomputable def tD (K : aa) (f : DE) : TE:=fun σ H Q=>∃ B δ d,InB B H∧RepS K H B σ δ∧f δ=some d∧∀ v H',Same H H'->Rep K H' B d v->Q v H'
noncomputable def tF (K : aa) (f : DS->Option (List D)) : TE:=fun σ H Q=>∃ B δ ds,InB B H∧RepS K H B σ δ∧f δ=some ds ∧
 ∀ a xs H',Same H H'->H a=none->H' a=some (.lst xs)->Reps K H' B ds xs->Q (.ref a) H'
noncomputable def tN (K : aa) (f : DE) : TE:=fun σ H Q=>∃ δ d,RepS K H noB σ δ∧f δ=some d∧∀ v H' A,Same H H'->Tree K H' d v A->A.Nodup->(∀ a∈A,H a=none)->Q v H'
noncomputable def tT (K : aa) (f : DS->Option Bool) : TT:=fun σ H Q=>∃ B δ b,InB B H∧RepS K H B σ δ∧f δ=some b∧∀ H',Same H H'->Q b H'
noncomputable def tDs (K : aa) (f : DS->Option (List D)) : TA:=fun σ H Q=>∃ B δ ds,InB B H∧RepS K H B σ δ∧f δ=some ds∧∀ vs H',Same H H'->Reps K H' B ds vs->Q vs H'
noncomputable abbrev PD (X : Cx) (e : Expr) (f : DE) : Prop:=PE X e (tD X.K f)
noncomputable abbrev PF (X : Cx) (e : Expr) (f : DS->Option (List D)) : Prop:=PE X e (tF X.K f)
noncomputable abbrev PN (X : Cx) (e : Expr) (f : DE) : Prop:=PE X e (tN X.K f)
noncomputable abbrev PTD (X : Cx) (e : Expr) (f : DS->Option Bool) : Prop:=PT X e (tT X.K f)
noncomputable abbrev PWD (X : Cx) (e : Expr) (f : DS->Option Bool) : Prop:=PW X e (tT X.K f)
section
variable {X : Cx} {e a b c : Expr} {es : List Expr} {pos : Pos}
theorem PE.imp {t t' : TE} (h : PE X e t) (w : ∀ σ H Q,t' σ H Q->t σ H Q) : PE X e t':=fun pins s σ H Q I q=>h pins s σ H Q I (w σ H Q q)
theorem PT.imp {t t' : TT} (h : PT X e t) (w : ∀ σ H Q,t' σ H Q->t σ H Q) : PT X e t':=fun pins s σ H Q I q=>h pins s σ H Q I (w σ H Q q)
theorem PW.imp {t t' : TT} (h : PW X e t) (w : ∀ σ H Q,t' σ H Q->t σ H Q) : PW X e t':=fun wh pins s σ H Q I q=>h wh pins s σ H Q I (w σ H Q q)
theorem PA.imp {t t' : TA} (h : PA X es t) (w : ∀ σ H Q,t' σ H Q->t σ H Q) : PA X es t':=fun po pins s σ H Q I q=>h po pins s σ H Q I (w σ H Q q)
noncomputable def mkL (f : DS->Option (List D)) : DE:=fun δ=>(f δ).map .lst
noncomputable def z0v (f : DS->Option (List D)) : DE:=fun δ=>(f δ).bind fun ds=>if z2l ds=true then some (.lst ds) else none
theorem iDF {K : aa} {f : DS->Option (List D)} : ∀ σ H Q,tD K (mkL f) σ H Q->tF K f σ H Q:=fun σ H Q z_=>by
 obtain ⟨B,δ,d,hB,S,q,k⟩:=z_
 unfold mkL at q
 cases r : f δ with
 | none=>rw [r] at q; cases q
 | some ds=>
  rw [r] at q
  cases q
  exact ⟨B,δ,ds,hB,S,r,fun a xs H' s hn ha hr=>k _ H' s (by unfold Rep; exact ⟨a,xs,rfl,hB.fresh hn,ha,hr⟩)⟩
theorem iDN {K : aa} {f : DE} : ∀ σ H Q,tD K f σ H Q->tN K f σ H Q:=fun σ H Q ⟨B,δ,d,hB,S,q,k⟩=>
 ⟨δ,d,S.anti (fun _ z=>z.elim),q,fun v H' A s t nd fr=>k v H' s (t.rep d fun a ha=>hB.fresh (fr a ha))⟩
theorem iNF {K : aa} {f : DS->Option (List D)} : ∀ σ H Q,tN K (z0v f) σ H Q->tF K f σ H Q:=fun σ H Q z_=>by
 obtain ⟨δ,d,S,q,k⟩:=z_
 unfold z0v at q
 cases r : f δ with
 | none=>rw [r] at q; cases q
 | some ds=>
  rw [r] at q
  have q' : (if z2l ds=true then some (D.lst ds) else none)=some d:=q
  split at q'
  ·rename_i hi
   cases q'
   refine ⟨noB,δ,ds,.no,S,r,fun a xs H' s hn ha hr=>k (.ref a) H' [a] s ?_ (aC.mpr ⟨(fun z=>nomatch z),bf⟩) (fun b hb=>by rw [am.mp hb]; exact hn)⟩
   unfold Tree
   exact ⟨a,xs,[],rfl,ha,hr.immTree ds hi,rfl⟩
  ·cases q'
theorem y1Q {f : DS->Option (List D)} (h : PF X e f) : PD X e (mkL f):=h.imp iDF
theorem z2X {f : DE} (h : PN X e f) : PD X e f:=h.imp iDN
theorem z4i {f : DS->Option (List D)} (h : PF X e f) : PN X e (z0v f):=h.imp iNF
noncomputable def z0d (i : Nat) : DE:=fun δ=>(δ[i]?).bind id
noncomputable def dC (d : D) : DE:=fun _=>some d
theorem z0g (i : Nat) {x : Str} {p : Pos} (h : PE X (.Name x p) (z7x i)) : PD X (.Name x p) (z0d i):=h.imp fun σ H Q z_=>by
 obtain ⟨B,δ,d,hB,S,q,k⟩:=z_
 unfold z0d at q
 cases r : δ[i]? with
 | none=>rw [r] at q; cases q
 | some o=>
  rw [r] at q
  have q' : o=some d:=q
  subst q'
  obtain ⟨v,e,rv⟩:=S.get i d r
  exact ⟨v,e,k v H (.refl H) rv⟩
theorem pd_C {d : D} {v : V} (h : PE X e (tC v)) (r : ∀ K H B,Rep K H B d v) : PD X e (dC d):=h.imp fun σ H Q z_=>by
 obtain ⟨B,δ,d',hB,S,q,k⟩:=z_
 cases q
 exact k v H (.refl H) (r _ _ _)
theorem z0n {i j p} : PD X (.Constant (.int i) j p) (dC (.int i)):=pd_C pe_int fun _ _ _=>rfl
theorem z7V {i j p} : PD X (.Constant (.bool i) j p) (dC (.bl i)):=pd_C pe_bl fun _ _ _=>rfl
theorem z6Y {i j p} : PD X (.Constant (.str i) j p) (dC (.str i)):=pd_C pe_str fun _ _ _=>rfl
noncomputable def d2 (F : D->D->Option D) (f g : DE) : DE:=fun δ=>(f δ).bind fun x=>(g δ).bind fun y=>F x y
theorem y4P {F : D->D->Option D} {f g : DE} {δ : DS} {d : D} (h : d2 F f g δ=some d) : ∃ x y,f δ=some x∧g δ=some y∧F x y=some d:=by
 unfold d2 at h
 cases hx : f δ with
 | none=>rw [hx] at h; cases h
 | some x=>
  rw [hx] at h
  cases hy : g δ with
  | none=>
   have h' : ((g δ).bind fun y=>F x y)=some d:=h
   rw [hy] at h'; cases h'
  | some y=>
   have h' : ((g δ).bind fun y=>F x y)=some d:=h
   rw [hy] at h'
   exact ⟨x,y,rfl,rfl,h'⟩
noncomputable def Op2 (K : aa) (r : R2) (F : D->D->Option D) : Prop:=∀ (H : Hp) (B : Addr->Prop) (dx dy d : D) (x y : V) (Q : VK),InB B H->Rep K H B dx x->Rep K H B dy y->F dx dy=some d->(∀ v H',Same H H'->Rep K H' B d v->Q v H')->r x y H Q
theorem y1b {r : R2} {F : D->D->Option D} {f g : DE} (ho : Op2 X.K r F) (σ : St) (H : Hp) (Q : VK) (h : tD X.K (d2 F f g) σ H Q) : tOp r (tD X.K f) (tD X.K g) σ H Q:=by
 obtain ⟨B,δ,d,hB,S,q,k⟩:=h
 obtain ⟨dx,dy,e1,e2,e3⟩:=y4P q
 exact ⟨B,δ,dx,hB,S,e1,fun v H1 s1 r1=>⟨B,δ,dy,hB.mono s1,S.mono s1,e2,fun u H2 s2 r2=>
  ho H2 B dx dy d v u Q ((hB.mono s1).mono s2) (r1.mono s2) r2 e3 fun z H' s' rz=>k z H' ((s1.trans s2).trans s') rz⟩⟩
theorem y4k {op : Operator} {r : R2} {F : D->D->Option D} {f g : DE} (ho : OpR X (binaryOp op) r) (hD : Op2 X.K r F) (ha : PD X a f) (hb : PD X b g) : PD X (.BinOp a op b pos) (d2 F f g):=(pe_op ho ha hb).imp (y1b hD)
theorem pd_cmp {op : CmpOp} {r : R2} {F : D->D->Option D} {f g : DE} (ho : OpR X (compareOp op) r) (hD : Op2 X.K r F) (ha : PD X a f) (hb : PD X b g) (hm : behindInMarks op b=false) : PD X (.Compare a [op] [b] pos) (d2 F f g):=(pe_cmpR ho ha hb hm).imp (y1b hD)
noncomputable def z1v (f : DE) : DS->Option Bool:=fun δ=>match f δ with
 | some (.bl b)=>some b
 | _=>none
theorem y2j {f : DE} {δ : DS} {b : Bool} (h : z1v f δ=some b) : f δ=some (.bl b):=by
 unfold z1v at h
 split at h
 ·rename_i b' e
  cases h; exact e
 ·cases h
theorem test_of {t : TE} {f : DE} (h : ∀ σ H Q,tD X.K f σ H Q->t σ H Q) (σ : St) (H : Hp) (Q : Bool->Hp->Prop) (q : tT X.K (z1v f) σ H Q) : tTest t σ H Q:=by
 obtain ⟨B,δ,b,hB,S,q,k⟩:=q
 refine h σ H _ ⟨B,δ,.bl b,hB,S,y2j q,fun v H' s r=>?_⟩
 exact ⟨b,r,k H' s⟩
theorem z4U {op : CmpOp} {r : R2} {F : D->D->Option D} {f g : DE} (ho : OpR X (compareOp op) r) (hD : Op2 X.K r F) (ha : PD X a f) (hb : PD X b g) (hm : behindInMarks op b=false) : PTD X (.Compare a [op] [b] pos) (z1v (d2 F f g)):=(pt_cmpR ho ha hb hm).imp (test_of (y1b hD))
noncomputable def z7i (F G : D->D->Option D) (f g h : DE) : DE:=fun δ=>(f δ).bind fun x=>(g δ).bind fun y=>match F x y with
 | some (.bl true)=>(h δ).bind fun z=>G y z
 | some (.bl false)=>some (.bl false)
 | _=>none
theorem y6I {r r' : R2} {F G : D->D->Option D} {f g h : DE} (ho : Op2 X.K r F) (ho' : Op2 X.K r' G) (σ : St) (H : Hp) (Q : VK) (q : tD X.K (z7i F G f g h) σ H Q) : y8L r r' (tD X.K f) (tD X.K g) (tD X.K h) σ H Q:=by
 obtain ⟨B,δ,d,hB,S,q,k⟩:=q
 unfold z7i at q
 cases e1 : f δ with
 | none=>rw [e1] at q; cases q
 | some x=>
  rw [e1] at q
  cases e2 : g δ with
  | none=>
   have q' : ((g δ).bind _)=some d:=q
   rw [e2] at q'; cases q'
  | some y=>
   have q' : ((g δ).bind _)=some d:=q
   rw [e2] at q'
   have q2 : (match F x y with | some (.bl true)=>(h δ).bind fun z=>G y z | some (.bl false)=>some (.bl false) | _=>none)=some d:=q'
   refine ⟨B,δ,x,hB,S,e1,fun v H1 s1 r1=>⟨B,δ,y,hB.mono s1,S.mono s1,e2,fun u H2 s2 r2=>?_⟩⟩
   split at q2
   ·rename_i e3
    refine ho H2 B x y _ v u _ ((hB.mono s1).mono s2) (r1.mono s2) r2 e3 fun z H3 s3 r3=>⟨true,r3,?_⟩
    rw [if_pos rfl]
    cases e4 : h δ with
    | none=>rw [e4] at q2; cases q2
    | some w=>
     rw [e4] at q2
     have q4 : G y w=some d:=q2
     refine ⟨B,δ,w,((hB.mono s1).mono s2).mono s3,((S.mono s1).mono s2).mono s3,e4,fun t H4 s4 r4=>?_⟩
     exact ho' H4 B y w d u t Q ((((hB.mono s1).mono s2).mono s3).mono s4) ((r2.mono s3).mono s4) r4 q4 fun z' H' s' rz=>k z' H' ((((s1.trans s2).trans s3).trans s4).trans s') rz
   ·rename_i e3
    cases q2
    refine ho H2 B x y _ v u _ ((hB.mono s1).mono s2) (r1.mono s2) r2 e3 fun z H3 s3 r3=>⟨false,r3,?_⟩
    rw [if_neg ao]
    exact k _ H3 ((s1.trans s2).trans s3) rfl
   ·cases q2
theorem y7q {op op' : CmpOp} {r r' : R2} {F G : D->D->Option D} {f g h : DE} (ho : OpR X (compareOp op) r) (ho' : OpR X (compareOp op') r') (hF : Op2 X.K r F) (hG : Op2 X.K r' G) (ha : PD X a f) (hb : PD X b g) (hc : PD X c h)
  (hm : lastMarks [op,op'] [b,c]=false:=by with_unfolding_all rfl) : PD X (.Compare a [op,op'] [b,c] pos) (z7i F G f g h):=(y6R ho ho' ha hb hc hm).imp (y6I hF hG)
noncomputable def iop (F : Int->Int->Option D) : D->D->Option D
 | .int i,.int j=>F i j
 | _,_=>none
theorem z7M {F : Int->Int->Option D} {x y d : D} (h : iop F x y=some d) : ∃ i j,x = .int i∧y = .int j∧F i j=some d:=by
 unfold iop at h
 split at h
 ·exact ⟨_,_,rfl,rfl,h⟩
 ·cases h
theorem y4F {K : aa} {C : Int->Int->Prop} [∀ i j,Decidable (C i j)] {g : Int->Int->Int} : Op2 K (rI C fun i j=>.int (g i j)) (iop fun i j=>if C i j then some (.int (g i j)) else none):=by
 intro H B dx dy d x y Q hB hx hy q k
 obtain ⟨i,j,rfl,rfl,q2⟩:=z7M q
 by_cases hc : C i j
 ·rw [if_pos hc] at q2
  cases q2
  exact ⟨i,j,hx,hy,hc,k _ H (.refl H) rfl⟩
 ·rw [if_neg hc] at q2
  cases q2
theorem y5l {K : aa} {g : Int->Int->Int} : Op2 K (rI0 fun i j=>.int (g i j)) (iop fun i j=>some (.int (g i j))):=by
 intro H B dx dy d x y Q hB hx hy q k
 obtain ⟨i,j,rfl,rfl,q2⟩:=z7M q
 cases q2
 exact ⟨i,j,hx,hy,k _ H (.refl H) rfl⟩
theorem z5G {K : aa} {g : Int->Int->Bool} : Op2 K (rI0 fun i j=>.bl (g i j)) (iop fun i j=>some (.bl (g i j))):=by
 intro H B dx dy d x y Q hB hx hy q k
 obtain ⟨i,j,rfl,rfl,q2⟩:=z7M q
 cases q2
 exact ⟨i,j,hx,hy,k _ H (.refl H) rfl⟩
noncomputable def d1 (F : D->Option D) (f : DE) : DE:=fun δ=>(f δ).bind F
theorem y4M {F : D->Option D} {f : DE} {δ : DS} {d : D} (h : d1 F f δ=some d) : ∃ x,f δ=some x∧F x=some d:=by
 unfold d1 at h
 cases hx : f δ with
 | none=>rw [hx] at h; cases h
 | some x=>rw [hx] at h; exact ⟨x,rfl,h⟩
noncomputable def uNeg : D->Option D
 | .int i=>some (.int (-i))
 | _=>none
theorem pd_neg {f : DE} (h : PD X a f) : PD X (.UnaryOp .USub a pos) (d1 uNeg f):=(pe_un un_neg h).imp fun σ H Q z_=>by
 obtain ⟨B,δ,d,hB,S,q,k⟩:=z_
 obtain ⟨x,e1,e2⟩:=y4M q
 refine ⟨B,δ,x,hB,S,e1,fun v H' s r=>?_⟩
 unfold uNeg at e2
 split at e2
 ·cases e2
  exact ⟨_,r,k _ H' s rfl⟩
 ·cases e2
noncomputable def z6m : D->Option Bool
 | .non=>some false
 | .bl b=>some b
 | .int i=>some (i != 0)
 | .str x=>if x.length≤sizeLine then some ((x.length : Int) != 0) else none
 | .lst ds=>some (!ds.isEmpty)
 | .tup ds=>some (!ds.isEmpty)
 | .scr ns=>some (!ns.isEmpty)
 | .dct ks _=>some (!ks.isEmpty)
 | .exc _=>none
noncomputable def z1t (f : DE) : DS->Option Bool:=fun δ=>(f δ).bind z6m
theorem y1g {K : aa} {H : Hp} {B : Addr->Prop} {ds : List D} {xs : List V} (h : Reps K H B ds xs) : (!ds.isEmpty) = !xs.isEmpty:=by
 have:=h.length
 cases ds <;> cases xs <;> simp_all
theorem y5q {K : aa} {H : Hp} {B : Addr->Prop} {d : D} {v : V} {k : Bool} (h : Rep K H B d v) (e : z6m d=some k) : TruV K v H k:=by
 cases d with
 | non=>cases h; cases e; rfl
 | bl b=>cases h; cases e; rfl
 | int i=>cases h; cases e; rfl
 | str x=>
  cases h
  have e' : (if x.length≤sizeLine then some ((x.length : Int) != 0) else none)=some k:=e
  by_cases hl : x.length≤sizeLine
  ·rw [if_pos hl] at e'
   cases e'
   exact ⟨hl,rfl⟩
  ·rw [if_neg hl] at e'
   cases e'
 | lst ds=>
  unfold Rep at h
  obtain ⟨a,xs,rfl,_,s,r⟩:=h
  cases e
  exact .inl ⟨xs,SqL.of s,y1g r⟩
 | tup ds=>
  unfold Rep at h
  obtain ⟨a,xs,rfl,s,r⟩:=h
  cases e
  exact .inr (.inl ⟨xs,s,y1g r⟩)
 | scr ns=>
  unfold Rep at h
  obtain ⟨a,rfl,s⟩:=h
  cases e
  exact .inl ⟨_,s.sq,by cases ns <;> rfl⟩
 | dct ks ds=>
  unfold Rep at h
  obtain ⟨a,kvs,rfl,_,s,q,r⟩:=h
  cases e
  refine .inr (.inr ⟨kvs,s,?_⟩)
  rw [← q]
  cases kvs <;> rfl
 | exc _=>cases e
theorem z0V {f : DE} (h : PD X a f) (he : ∀ whole,isTrue a X.env whole=(do let v ← whole; standAt a.pos; holding [v] (truthy v)):=by intro _; rfl) : PTD X a (z1t f):=(y6G h he).imp fun σ H Q z_=>by
 obtain ⟨B,δ,k,hB,S,q,kk⟩:=z_
 unfold z1t at q
 cases e : f δ with
 | none=>rw [e] at q; cases q
 | some d=>
  rw [e] at q
  exact ⟨B,δ,d,hB,S,e,fun v H' s r=>⟨k,y5q r q,kk H' s⟩⟩
noncomputable def y5G (f g : DS->Option Bool) : DS->Option Bool:=fun δ=>(f δ).bind fun c=>if c=true then g δ else some false
noncomputable def dOrT (f g : DS->Option Bool) : DS->Option Bool:=fun δ=>(f δ).bind fun c=>if c=true then some true else g δ
noncomputable def z6C (f : DS->Option Bool) : DS->Option Bool:=fun δ=>(f δ).map (!·)
theorem y6W {f : DS->Option Bool} (h : PTD X a f) : PWD X (.BoolOp .And [a] pos) f:=pw_and1 h
theorem y5u {f : DS->Option Bool} (h : PTD X a f) : PWD X (.BoolOp .Or [a] pos) f:=pw_or1 h
theorem pw_andD {rest : List Expr} {f g : DS->Option Bool} (ha : PTD X a f) (hb : PWD X (.BoolOp .And (b :: rest) pos) g) : PWD X (.BoolOp .And (a :: b :: rest) pos) (y5G f g):=(pw_and ha hb).imp fun σ H Q z_=>by
 obtain ⟨B,δ,k,hB,S,q,kk⟩:=z_
 unfold y5G at q
 cases e : f δ with
 | none=>rw [e] at q; cases q
 | some c=>
  rw [e] at q
  refine ⟨B,δ,c,hB,S,e,fun H1 s1=>?_⟩
  have q' : (if c=true then g δ else some false)=some k:=q
  cases c with
  | true=>
   rw [if_pos rfl] at q'
   refine iteT ?_
   exact ⟨B,δ,k,hB.mono s1,S.mono s1,q',fun H2 s2=>kk H2 (s1.trans s2)⟩
  | false=>
   rw [if_neg ao] at q'
   refine iteF ?_
   cases q'
   exact kk H1 s1
theorem y8z {rest : List Expr} {f g : DS->Option Bool} (ha : PTD X a f) (hb : PWD X (.BoolOp .Or (b :: rest) pos) g) : PWD X (.BoolOp .Or (a :: b :: rest) pos) (dOrT f g):=(pw_or ha hb).imp fun σ H Q z_=>by
 obtain ⟨B,δ,k,hB,S,q,kk⟩:=z_
 unfold dOrT at q
 cases e : f δ with
 | none=>rw [e] at q; cases q
 | some c=>
  rw [e] at q
  refine ⟨B,δ,c,hB,S,e,fun H1 s1=>?_⟩
  have q' : (if c=true then some true else g δ)=some k:=q
  cases c with
  | true=>
   rw [if_pos rfl] at q'
   refine iteT ?_
   cases q'
   exact kk H1 s1
  | false=>
   rw [if_neg ao] at q'
   refine iteF ?_
   exact ⟨B,δ,k,hB.mono s1,S.mono s1,q',fun H2 s2=>kk H2 (s1.trans s2)⟩
theorem z4k {f : DS->Option Bool} (h : PTD X a f) : PTD X (.UnaryOp .Not a pos) (z6C f):=(pt_not h).imp fun σ H Q z_=>by
 obtain ⟨B,δ,k,hB,S,q,kk⟩:=z_
 unfold z6C at q
 cases e : f δ with
 | none=>rw [e] at q; cases q
 | some c=>
  rw [e] at q
  cases q
  exact ⟨B,δ,c,hB,S,e,kk⟩
noncomputable def y8C (f g : DE) : DE:=fun δ=>match f δ with
 | some (.bl true)=>g δ
 | some (.bl false)=>some (.bl false)
 | _=>none
noncomputable def dOr (f g : DE) : DE:=fun δ=>match f δ with
 | some (.bl true)=>some (.bl true)
 | some (.bl false)=>g δ
 | _=>none
noncomputable def uNot : D->Option D
 | .bl b=>some (.bl (!b))
 | _=>none
theorem y1p {op} {f : DE} (h : PD X a f) : PD X (.BoolOp op [a] pos) f:=pe_one h
theorem y1d {rest : List Expr} {f g : DE} (ha : PD X a f) (hb : PD X (.BoolOp .And (b :: rest) pos) g) : PD X (.BoolOp .And (a :: b :: rest) pos) (y8C f g):=(pe_and ha hb).imp fun σ H Q z_=>by
 obtain ⟨B,δ,d,hB,S,q,k⟩:=z_
 unfold y8C at q
 split at q
 ·rename_i e
  refine ⟨B,δ,.bl true,hB,S,e,fun v H1 s1 r=>⟨true,r,?_⟩⟩
  rw [if_pos rfl]
  exact ⟨B,δ,d,hB.mono s1,S.mono s1,q,fun v2 H2 s2 r2=>k v2 H2 (s1.trans s2) r2⟩
 ·rename_i e
  cases q
  refine ⟨B,δ,.bl false,hB,S,e,fun v H1 s1 r=>⟨false,r,?_⟩⟩
  rw [if_neg ao]
  exact k _ H1 s1 rfl
 ·cases q
theorem pd_or {rest : List Expr} {f g : DE} (ha : PD X a f) (hb : PD X (.BoolOp .Or (b :: rest) pos) g) : PD X (.BoolOp .Or (a :: b :: rest) pos) (dOr f g):=(pe_or ha hb).imp fun σ H Q z_=>by
 obtain ⟨B,δ,d,hB,S,q,k⟩:=z_
 unfold dOr at q
 split at q
 ·rename_i e
  cases q
  refine ⟨B,δ,.bl true,hB,S,e,fun v H1 s1 r=>⟨true,r,?_⟩⟩
  rw [if_pos rfl]
  exact k _ H1 s1 rfl
 ·rename_i e
  refine ⟨B,δ,.bl false,hB,S,e,fun v H1 s1 r=>⟨false,r,?_⟩⟩
  rw [if_neg ao]
  exact ⟨B,δ,d,hB.mono s1,S.mono s1,q,fun v2 H2 s2 r2=>k v2 H2 (s1.trans s2) r2⟩
 ·cases q
theorem y8A {f : DE} (h : PD X a f) : PD X (.UnaryOp .Not a pos) (d1 uNot f):=(pe_not h).imp fun σ H Q z_=>by
 obtain ⟨B,δ,d,hB,S,q,k⟩:=z_
 obtain ⟨x,e1,e2⟩:=y4M q
 refine ⟨B,δ,x,hB,S,e1,fun v H' s r=>?_⟩
 unfold uNot at e2
 split at e2
 ·cases e2
  exact ⟨_,r,k _ H' s rfl⟩
 ·cases e2
noncomputable def z0q : List DE->DS->Option (List D)
 | [],_=>some []
 | f :: r,δ=>(f δ).bind fun x=>(z0q r δ).bind fun xs=>some (x :: xs)
theorem z6T {f : DE} {r : List DE} {δ : DS} {ds : List D} (h : z0q (f :: r) δ=some ds) : ∃ x xs,f δ=some x∧z0q r δ=some xs∧ds=x :: xs:=by
 unfold z0q at h
 cases hx : f δ with
 | none=>rw [hx] at h; cases h
 | some x=>
  rw [hx] at h
  have h' : ((z0q r δ).bind fun xs=>some (x :: xs))=some ds:=h
  cases hy : z0q r δ with
  | none=>rw [hy] at h'; cases h'
  | some xs=>
   rw [hy] at h'
   cases h'
   exact ⟨x,xs,rfl,rfl,rfl⟩
theorem z3H : ∀ {fl : List DE} {δ : DS} {ds : List D},z0q fl δ=some ds->ds.length=fl.length
 | [],_,_,h=>by cases h; rfl
 | f :: r,δ,ds,h=>by
  obtain ⟨x,xs,_,e,rfl⟩:=z6T h
  simp [z3H e]
noncomputable abbrev PAD (X : Cx) (es : List Expr) (fl : List DE) : Prop:=PA X es (tDs X.K (z0q fl))
theorem z0c : PAD X [] []:=pa_nil.imp fun σ H Q z_=>by
 obtain ⟨B,δ,ds,hB,S,q,k⟩:=z_
 cases q
 exact k [] H (.refl H) .nil
theorem z0a {f : DE} {fl : List DE} (ha : PD X e f) (hr : PAD X es fl) (hs : starEach (e :: es) X.env=(false,eval e X.env) :: starEach es X.env:=by rfl) : PAD X (e :: es) (f :: fl):=(z1x ha hr hs).imp fun σ H Q z_=>by
 obtain ⟨B,δ,ds,hB,S,q,k⟩:=z_
 obtain ⟨x,xs,e1,e2,rfl⟩:=z6T q
 exact ⟨B,δ,x,hB,S,e1,fun v H1 s1 r1=>⟨B,δ,xs,hB.mono s1,S.mono s1,e2,fun vs H2 s2 r2=>k (v :: vs) H2 (s1.trans s2) (.cons (r1.mono s2) r2)⟩⟩
theorem z1h {fl : List DE} (h : PAD X es fl) (hl : fl.length≤1000:=by decide) : PF X (.List es pos) (z0q fl):=(y4I h).imp fun σ H Q z_=>by
 obtain ⟨B,δ,ds,hB,S,q,k⟩:=z_
 refine ⟨B,δ,ds,hB,S,q,fun vs H1 s1 r1=>⟨?_,fun p hp=>?_⟩⟩
 ·rw [← r1.length,z3H q]
  exact cL (z9A hl)
 ·exact k p vs _ (s1.trans (z0r hp)) (s1.free hp) z0o (r1.mono (z0r hp))
noncomputable def mkT (f : DS->Option (List D)) : DE:=fun δ=>(f δ).map .tup
theorem y1w {x1} {fl : List DE} (h : PAD X es fl) (hl : fl.length≤1000:=by decide) : PD X (.Tuple es x1 pos) (mkT (z0q fl)):=(pe_tup h).imp fun σ H Q z_=>by
 obtain ⟨B,δ,d,hB,S,q,k⟩:=z_
 unfold mkT at q
 cases r : z0q fl δ with
 | none=>rw [r] at q; cases q
 | some ds=>
  rw [r] at q
  cases q
  refine ⟨B,δ,ds,hB,S,r,fun vs H1 s1 r1=>⟨?_,fun p hp=>?_⟩⟩
  ·rw [← r1.length,z3H r]
   exact cL (z9A hl)
  ·refine k _ _ (s1.trans (z0r hp)) ?_
   unfold Rep
   exact ⟨p,vs,rfl,SqT.of z0o,r1.mono (z0r hp)⟩
noncomputable def ixD : D->D->Option D
 | .lst ds,.int i=>atI ds i
 | .tup ds,.int i=>atI ds i
 | .scr ns,.int i=>(atI ns i).map .int
 | _,_=>none
theorem atI_map {α β : Type} (f : α->β) (xs : List α) (i : Int) : atI (xs.map f) i=(atI xs i).map f:=by
 unfold atI
 rw [aq]
 cases ixN xs.length i with
 | none=>rfl
 | some j=>simp
theorem y1n {K : aa} {H : Hp} {B : Addr->Prop} {ds : List D} {xs : List V} {i : Int} {d : D} (h : Reps K H B ds xs) (e : atI ds i=some d) : ∃ x,atI xs i=some x∧Rep K H B d x:=by
 unfold atI at e ⊢
 rw [← h.length]
 cases q : ixN ds.length i with
 | none=>rw [q] at e; cases e
 | some j=>
  rw [q] at e
  exact h.get e
theorem o2_ix {K : aa} : Op2 K (rIx K) ixD:=by
 intro H B dx dy d x y Q hB hx hy q k
 unfold ixD at q
 split at q
 ·unfold Rep at hx
  obtain ⟨a,xs,rfl,_,s,r⟩:=hx
  obtain ⟨v,e,rv⟩:=y1n r q
  exact .inl ⟨a,xs,_,v,rfl,hy,SqL.of s,e,k v H (.refl H) rv⟩
 ·unfold Rep at hx
  obtain ⟨a,xs,rfl,s,r⟩:=hx
  obtain ⟨v,e,rv⟩:=y1n r q
  exact .inr (.inl ⟨a,xs,_,v,rfl,hy,s,e,k v H (.refl H) rv⟩)
 ·rename_i ns i
  unfold Rep at hx
  obtain ⟨a,rfl,s⟩:=hx
  cases e : atI ns i with
  | none=>rw [e] at q; cases q
  | some n=>
   rw [e] at q
   cases q
   exact .inl ⟨a,_,_,.int n,rfl,hy,s.sq,by rw [atI_map,e]; rfl,k _ H (.refl H) rfl⟩
 ·cases q
theorem z0O {f g : DE} (ha : PD X a f) (hb : PD X b g) (hs : y0e b:=by intro _ _; rfl) : PD X (.Subscript a b pos) (d2 ixD f g):=(pe_ix ix_seq ha hb hs).imp (y1b o2_ix)
noncomputable def spR (K : aa) (F : List D->Option D) : Sp:=fun vs H Q _=>∃ B ds d,InB B H∧Reps K H B ds vs∧F ds=some d∧∀ v H',Same H H'->Rep K H' B d v->Q v H'
noncomputable def spN (K : aa) (F : List D->Option D) : Sp:=fun vs H Q _=>∃ ds d,Reps K H noB ds vs∧F ds=some d∧∀ v H' A,Same H H'->Tree K H' d v A->A.Nodup->(∀ a∈A,H a=none)->Q v H'
structure DefOk (P : Program) (w : World) (K : aa) (mg : Str->Option Value) (base : Heap) (k : Nat) (x : Str) (sp : Sp) : Prop where
 ok : ∃ (f : Addr) (fd : FuncData) (ps : List Str),mg x=some (.ref f)∧av K (.ref f)=true∧Binds K fd ps []∧FnOk P w K mg base CX0 k f fd ps sp
noncomputable def z0j (F : List D->Option D) (fl : List DE) : DE:=fun δ=>(z0q fl δ).bind F
theorem z5p {F : List D->Option D} {fl : List DE} {δ : DS} {d : D} (h : z0j F fl δ=some d) : ∃ ds,z0q fl δ=some ds∧F ds=some d:=by
 unfold z0j at h
 cases q : z0q fl δ with
 | none=>rw [q] at h; cases h
 | some ds=>rw [q] at h; exact ⟨ds,rfl,h⟩
end
end L2
namespace L2
open PySem PySem.Spec PyProof.Rows
section
variable {X : Cx} {e a b c : Expr} {es : List Expr} {pos p : Pos} {x : Str} {k : Nat} {tg iter elt : Expr}
theorem z8m {sp : Sp} {t : TA} (G : DefOk X.prog X.w X.K X.mg X.base k x sp) (hr : Room k X.A) (hg : Gl X x) (ha : PA X (e :: es) t) (hdb : (x == ("__debug__" : Str))=false:=by decide)
  (he : starEach (e :: es) X.env=(false,eval e X.env) :: starEach es X.env:=by rfl) (hpl : (backTo pos (starEach es X.env)).any (·.1)=false:=by rfl) : PE X (.Call (.Name x p) (e :: es) [] pos) (tCall sp [] E0 t):=by
 obtain ⟨f,fd,ps,hm,hk,hb,ok⟩:=G.ok
 exact pe_call ok hr hg hm hk hb .nil pass0 ha hdb he hpl
theorem y6l {F : List D->Option D} {fl : List DE} (G : DefOk X.prog X.w X.K X.mg X.base k x (spR X.K F)) (hr : Room k X.A) (hg : Gl X x) (ha : PAD X (e :: es) fl) (hdb : (x == ("__debug__" : Str))=false:=by decide)
  (he : starEach (e :: es) X.env=(false,eval e X.env) :: starEach es X.env:=by rfl) (hpl : (backTo pos (starEach es X.env)).any (·.1)=false:=by rfl) : PD X (.Call (.Name x p) (e :: es) [] pos) (z0j F fl):=
 (z8m G hr hg ha hdb he hpl).imp fun σ H Q z_=>by
  obtain ⟨B,δ,d,hB,S,q,k⟩:=z_
  obtain ⟨ds,e1,e2⟩:=z5p q
  refine ⟨B,δ,ds,hB,S,e1,fun vs H1 s1 r1=>?_⟩
  show spR X.K F (vs ++ []) H1 Q E0
  rw [aL]
  exact ⟨B,ds,d,hB.mono s1,r1,e2,fun v H' s' r=>k v H' (s1.trans s') r⟩
theorem z0h {F : List D->Option D} {fl : List DE} (G : DefOk X.prog X.w X.K X.mg X.base k x (spN X.K F)) (hr : Room k X.A) (hg : Gl X x) (ha : PAD X (e :: es) fl) (hdb : (x == ("__debug__" : Str))=false:=by decide)
  (he : starEach (e :: es) X.env=(false,eval e X.env) :: starEach es X.env:=by rfl) (hpl : (backTo pos (starEach es X.env)).any (·.1)=false:=by rfl) : PN X (.Call (.Name x p) (e :: es) [] pos) (z0j F fl):=
 (z8m G hr hg ha hdb he hpl).imp fun σ H Q z_=>by
  obtain ⟨δ,d,S,q,k⟩:=z_
  obtain ⟨ds,e1,e2⟩:=z5p q
  refine ⟨noB,δ,ds,.no,S,e1,fun vs H1 s1 r1=>?_⟩
  show spN X.K F (vs ++ []) H1 Q E0
  rw [aL]
  exact ⟨ds,d,r1,e2,fun v H' A s' t nd fr=>k v H' A (s1.trans s') t nd fun a ha=>s1.free (fr a ha)⟩
structure ItD (K : aa) (J : It) (H : Hp) (B : Addr->Prop) (ds : List D) : Prop where
 go : ∀ i H',Keep K B H H'->i < ds.length->J.go i H'
 stop : ∀ i H',Keep K B H H'->ds.length≤i->J.stop i H'
 yld : ∀ i H' x H2,Keep K B H H'->J.yld i H' x H2->Same H' H2∧∃ d,(i < ds.length->ds[i]? = some d)∧Rep K H2 B d x
noncomputable def ItW (K : aa) (J : It) (H : Hp) (B : Addr->Prop) (ds : List D) : Prop:=∀ C : Addr->Prop,(∀ a,C a->H a=none)->ItD K J H (fun a=>B a∨C a) ds
noncomputable def tI (K : aa) (f : DS->Option (List D)) : TI:=fun σ H R=>∃ B δ ds,InB B H∧RepS K H B σ δ∧f δ=some ds∧∀ J H',Same H H'->ItW K J H' B ds->R J H'
noncomputable abbrev PID (X : Cx) (tg iter : Expr) (f : DS->Option (List D)) : Prop:=PI X tg iter (tI X.K f)
theorem PI.imp {wi wi' : TI} (h : PI X tg iter wi) (w : ∀ σ H R,wi' σ H R->wi σ H R) : PI X tg iter wi':=fun pins s σ H R I q=>h pins s σ H R I (w σ H R q)
noncomputable def iSeq (K : aa) (tl : TE) : TI:=fun σ H R=>tl σ H fun x H1=>∃ a,x = .ref a∧(((∃ xs,SqL K H1 a xs)∧R (Itl K a) H1)∨((∃ xs,SqT K H1 a xs)∧R (Itt K a) H1))
theorem pi_seq {l : Expr} {tl : TE} (hl : PE X l tl) : PI X tg l (iSeq X.K tl):=by
 intro pins s σ H R I h
 refine thn (hl pins s σ H _ I h) fun v s1 ⟨x,H1,I1,r1,q1⟩=>?_
 obtain ⟨a,e,q1⟩:=q1
 subst e
 cases r1
 have fp : ∀ b∈[s1.heap.objs.size],y0v X pins H1 b:=fun b hb=>by
  have e : b=s1.heap.objs.size:=by simpa using hb
  subst e
  exact I1.fpOk (ar _) (I1.hok.fresh (ar _))
 rcases q1 with ⟨⟨xs,hq⟩,q⟩ | ⟨⟨xs,hq⟩,q⟩
 ·obtain ⟨its,rv,p,hz⟩:=I1.list hq
  refine wpAny_pyIter_list p.isList ?_
  exact ⟨s1.heap.objs.size,[s1.heap.objs.size],_,_,H1,rfl,I1.kept (t':=s1.toks) fun b o e=>Heap.get?_push_of_some _ e,y3F a _,⟨_,Heap.get?_push_size _ rfl,rfl,rfl⟩,fp,q⟩
 ·obtain ⟨its,rv,p,hz⟩:=I1.tuple hq
  refine wpAny_pyIter_tuple (show s1.heap.IsTuple a its.toArray from p) ?_
  exact ⟨s1.heap.objs.size,[s1.heap.objs.size],_,_,H1,rfl,I1.kept (t':=s1.toks) fun b o e=>Heap.get?_push_of_some _ e,y2r a _,⟨_,Heap.get?_push_size _ rfl,rfl,rfl⟩,fp,q⟩
noncomputable def y2X : D->Option (List D)
 | .lst ds=>some ds
 | .tup ds=>some ds
 | .scr ns=>some (ns.map .int)
 | _=>none
noncomputable def z4u (f : DE) : DS->Option (List D):=fun δ=>(f δ).bind y2X
theorem y5X {K : aa} {H : Hp} {B : Addr->Prop} {a : Addr} {xs : List V} {ds : List D} (n : ¬ B a) (h : H a=some (.lst xs)) (r : Reps K H B ds xs) : ItD K (Itl K a) H B ds:=by
 have hl:=r.length
 refine ⟨fun i H' kp hi=>?_,fun i H' kp hi=>?_,fun i H' x H2 kp y=>?_⟩
 ·exact ⟨xs,xs[i],SqL.of (kp.sl a xs n h),by rw [ae]⟩
 ·exact ⟨xs,SqL.of (kp.sl a xs n h),by omega⟩
 ·obtain ⟨e,y⟩:=y
  subst e
  have hx:=y xs (SqL.of (kp.sl a xs n h))
  obtain ⟨d,e,rd⟩:=(Reps.keep kp ds r).get' hx
  exact ⟨.refl _,d,fun _=>e,rd⟩
theorem itd_tup {K : aa} {H : Hp} {B : Addr->Prop} {a : Addr} {xs : List V} {ds : List D} (h : SqT K H a xs) (r : Reps K H B ds xs) : ItD K (Itt K a) H B ds:=by
 have hl:=r.length
 refine ⟨fun i H' kp hi=>?_,fun i H' kp hi=>?_,fun i H' x H2 kp y=>?_⟩
 ·exact ⟨xs,xs[i],kp.st a xs h,by rw [ae]⟩
 ·exact ⟨xs,kp.st a xs h,by omega⟩
 ·obtain ⟨e,y⟩:=y
  subst e
  have hx:=y xs (kp.st a xs h)
  obtain ⟨d,e,rd⟩:=(Reps.keep kp ds r).get' hx
  exact ⟨.refl _,d,fun _=>e,rd⟩
theorem z1M {K : aa} {H : Hp} {B : Addr->Prop} : ∀ ns : List Int,Reps K H B (ns.map D.int) (ns.map V.int)
 | []=>.nil
 | n :: ns=>.cons rfl (z1M ns)
theorem itd_scr {K : aa} {H : Hp} {B : Addr->Prop} {a : Addr} {ns : List Int} (h : SqF K H a (ns.map V.int)) : ItD K (Itl K a) H B (ns.map D.int):=by
 have r : ∀ H',Reps K H' B (ns.map D.int) (ns.map V.int):=fun _=>z1M ns
 refine ⟨fun i H' kp hi=>?_,fun i H' kp hi=>?_,fun i H' x H2 kp y=>?_⟩
 ·exact ⟨ns.map V.int,(ns.map V.int)[i]'(by simpa using hi),(kp.sf a _ h).sq,by rw [ae]⟩
 ·exact ⟨ns.map V.int,(kp.sf a _ h).sq,by simpa using hi⟩
 ·obtain ⟨e,y⟩:=y
  subst e
  have hx:=y _ (kp.sf a _ h).sq
  obtain ⟨d,e,rd⟩:=(r _).get' hx
  exact ⟨.refl _,d,fun _=>e,rd⟩
theorem z0A {l : Expr} {f : DE} (h : PD X l f) : PID X tg l (z4u f):=(pi_seq h).imp fun σ H R z_=>by
 obtain ⟨B,δ,ds,hB,S,q,k⟩:=z_
 unfold z4u at q
 cases e : f δ with
 | none=>rw [e] at q; cases q
 | some d=>
  rw [e] at q
  have q' : y2X d=some ds:=q
  refine ⟨B,δ,d,hB,S,e,fun v H1 s1 r1=>?_⟩
  unfold y2X at q'
  split at q'
  ·cases q'
   unfold Rep at r1
   obtain ⟨a,xs,rfl,n,h,r⟩:=r1
   exact ⟨a,rfl,.inl ⟨⟨xs,SqL.of h⟩,k _ H1 s1 fun C hC=>y5X (fun z=>z.elim n fun z=>by rw [hC a z] at h; cases h) h (Reps.wide hC _ r)⟩⟩
  ·cases q'
   unfold Rep at r1
   obtain ⟨a,xs,rfl,h,r⟩:=r1
   exact ⟨a,rfl,.inr ⟨⟨xs,h⟩,k _ H1 s1 fun C hC=>itd_tup h (Reps.wide hC _ r)⟩⟩
  ·cases q'
   unfold Rep at r1
   obtain ⟨a,rfl,h⟩:=r1
   exact ⟨a,rfl,.inl ⟨⟨_,h.sq⟩,k _ H1 s1 fun C hC=>itd_scr h⟩⟩
  ·cases q'
noncomputable def z4A (lo : Int) (n : Nat) : List D:=(ag n).map fun i=>.int (lo + (i : Nat))
theorem y1N {lo : Int} {n i : Nat} (h : i < n) : (z4A lo n)[i]? = some (.int (lo + i)):=by
 unfold z4A
 rw [aN,cS h]
 rfl
theorem z3q (lo : Int) (n : Nat) : (z4A lo n).length=n:=by unfold z4A; rw [aq,bG]
theorem y4x {K : aa} {H : Hp} {B : Addr->Prop} {lo : Int} {n : Nat} : ItD K (Itr lo n) H B (z4A lo n):=by
 refine ⟨fun i H' _ hi=>?_,fun i H' _ hi=>?_,fun i H' x H2 _ y=>?_⟩
 ·rw [z3q] at hi; exact hi
 ·rw [z3q] at hi; exact hi
 ·obtain ⟨e,y⟩:=y
  subst e y
  exact ⟨.refl _,.int (lo + i),fun h=>y1N (by rwa [z3q] at h),rfl⟩
noncomputable def z4s (f : DE) : DS->Option (List D):=fun δ=>match f δ with
 | some (.int j)=>if -(2 ^ 62)≤j∧j < 2 ^ 62 then some (z4A 0 j.toNat) else none
 | _=>none
noncomputable def y7Y (f g : DE) : DS->Option (List D):=fun δ=>match f δ,g δ with
 | some (.int i),some (.int j)=>if -(2 ^ 62)≤i∧i < 2 ^ 62∧-(2 ^ 62)≤j∧j < 2 ^ 62 then some (z4A i (j - i).toNat) else none
 | _,_=>none
theorem z2n {f : DE} (hg : Gl X "range") (hm : X.mg "range" = none) (ha : PD X a f) (hs : starEach [a] X.env=[(false,eval a X.env)]:=by rfl) : PID X tg (.Call (.Name "range" p) [a] [] pos) (z4s f):=
 (z9G hg hm (z0a ha z0c hs) hs).imp fun σ H R z_=>by
  obtain ⟨B,δ,ds,hB,S,q,k⟩:=z_
  unfold z4s at q
  split at q
  ·rename_i j e
   split at q
   ·rename_i hj
    cases q
    have ea : z0q [f] δ=some [.int j]:=by unfold z0q; rw [e]; rfl
    refine ⟨B,δ,[.int j],hB,S,ea,fun vs H1 s1 r1=>?_⟩
    unfold Reps at r1
    obtain ⟨x,r,rfl,rx,rr⟩:=r1
    unfold Reps at rr
    subst rr
    exact ⟨j,by rw [show x=V.int j from rx],hj.1,hj.2,k _ H1 s1 fun C _=>y4x⟩
   ·cases q
  ·cases q
theorem pi_rng2 {f g : DE} (hg : Gl X "range") (hm : X.mg "range" = none) (ha : PD X a f) (hb : PD X b g) (hs : starEach [a,b] X.env=[(false,eval a X.env),(false,eval b X.env)]:=by rfl) (hs2 : starEach [b] X.env=[(false,eval b X.env)]:=by rfl) :
  PID X tg (.Call (.Name "range" p) [a,b] [] pos) (y7Y f g):=
 (y3i hg hm (z0a ha (z0a hb z0c hs2) (by rw [hs,hs2])) hs hs2).imp fun σ H R z_=>by
  obtain ⟨B,δ,ds,hB,S,q,k⟩:=z_
  unfold y7Y at q
  split at q
  ·rename_i i j e e'
   split at q
   ·rename_i hj
    cases q
    have ea : z0q [f,g] δ=some [.int i,.int j]:=by unfold z0q z0q; rw [e,e']; rfl
    refine ⟨B,δ,[.int i,.int j],hB,S,ea,fun vs H1 s1 r1=>?_⟩
    unfold Reps at r1
    obtain ⟨x,r,rfl,rx,rr⟩:=r1
    unfold Reps at rr
    obtain ⟨y,r',rfl,ry,rr⟩:=rr
    unfold Reps at rr
    subst rr
    exact ⟨i,j,by rw [show x=V.int i from rx,show y=V.int j from ry],hj,k _ H1 s1 fun C _=>y4x⟩
   ·cases q
  ·cases q
noncomputable def y6o : Option D->List D->List D
 | some y,ys=>y :: ys
 | none,ys=>ys
noncomputable def z1U (h : D->Option (Option D)) : List D->Option (List D)
 | []=>some []
 | x :: r=>(h x).bind fun o=>(z1U h r).bind fun ys=>some (y6o o ys)
theorem z5f {h : D->Option (Option D)} {x : D} {r ds : List D} (e : z1U h (x :: r)=some ds) : ∃ o ys,h x=some o∧z1U h r=some ys∧ds=y6o o ys:=by
 unfold z1U at e
 cases q : h x with
 | none=>rw [q] at e; cases e
 | some o=>
  rw [q] at e
  have e' : ((z1U h r).bind fun ys=>some (y6o o ys))=some ds:=e
  cases q' : z1U h r with
  | none=>rw [q'] at e'; cases e'
  | some ys=>
   rw [q'] at e'
   exact ⟨o,ys,rfl,rfl,(Option.some.inj e').symm⟩
noncomputable def z0X (fi : DS->Option (List D)) (fc : DS->Option Bool) (fe : DE) : DS->Option (List D):=fun δ=>(fi δ).bind fun xs=>if xs.length≤sizeLine then
 z1U (fun x=>(fc (δ ++ [some x])).bind fun k=>if k=true then (fe (δ ++ [some x])).map some else some none) xs else none
noncomputable def z2Y : DS->Option Bool:=fun _=>some true
theorem z0x {X : Cx} : y5M X [] (tT X.K z2Y):=fun pins s σ H Q I ⟨B,δ,b,hB,S,q,k⟩=>y7o pins s σ H Q I (by cases q; exact k H (.refl H))
theorem z1u {X : Cx} {c : Expr} {f : DS->Option Bool} (h : PTD X c f) : y5M X [c] (tT X.K f):=y6L h
theorem RepS.snoc {K : aa} {H : Hp} {B : Addr->Prop} {σ : St} {δ : DS} {d : D} {v : V} (S : RepS K H B σ δ) (r : Rep K H B d v) : RepS K H B (σ ++ [some v]) (δ ++ [some d]):=by
 refine ⟨by simp [S.len],fun i d' e=>?_⟩
 by_cases hi : i < δ.length
 ·rw [a9 hi] at e
  obtain ⟨w,e',r'⟩:=S.get i d' e
  exact ⟨w,by rw [a9 (by rw [← S.len]; exact hi)]; exact e',r'⟩
 ·by_cases hj : i=δ.length
  ·subst hj
   rw [bv (ar _),Nat.sub_self] at e
   cases e
   refine ⟨v,?_,r⟩
   rw [S.len,bv (ar _),Nat.sub_self]
   rfl
  ·rw [bM (by simp; omega)] at e
   cases e
theorem RepS.wide {K : aa} {H : Hp} {B C : Addr->Prop} {σ : St} {δ : DS} (h : RepS K H B σ δ) (hc : ∀ a,C a->H a=none) : RepS K H (fun a=>B a∨C a) σ δ:=
 ⟨h.len,fun i d q=>let ⟨v,a,r⟩:=h.get i d q; ⟨v,a,Rep.wide hc d r⟩⟩
theorem z8d {w v : Option V} : ∀ {σ : St},(σ ++ [w]).set σ.length v=σ ++ [v]
 | []=>rfl
 | x :: r=>congrArg (x :: ·) (z8d (σ:=r))
variable {N' : List Str} {sc : Scope} {ifs : List Expr} {n : Nat} {px : Pos} {fi : DS->Option (List D)} {fc : DS->Option Bool} {fe : DE}
theorem y1P {σ : St} {H : Hp} {Q : VK} (hσ : σ.length=n) (hq : tF X.K (z0X fi fc fe) σ H Q) : y5F (tI X.K fi) (z2A n) (tT X.K fc) (tD X.K fe) 1 σ H Q:=by
 obtain ⟨B,δ,ds,hB,Sδ,q,k⟩:=hq
 unfold z0X at q
 cases e1 : fi δ with
 | none=>rw [e1] at q; cases q
 | some xs=>
 rw [e1] at q
 have q1 : (if xs.length≤sizeLine then z1U (fun x=>(fc (δ ++ [some x])).bind fun k=>if k=true then (fe (δ ++ [some x])).map some else some none) xs else none)=some ds:=q
 split at q1
 case isFalse=>cases q1
 case isTrue hsz=>
 refine ⟨B,δ,xs,hB,Sδ,e1,fun J H1 s1 itw=>fun Da hD=>?_⟩
 have hD0 : H Da=none:=s1.free hD
 have it:=itw (fun a=>a=Da) fun a ha=>by rw [ha]; exact hD
 have Sw : RepS X.K H1 (fun a=>B a∨a=Da) σ δ:=(Sδ.mono s1).wide fun a ha=>by rw [ha]; exact hD
 obtain ⟨I,hI⟩ : ∃ I : Nat->Nat->St->Hp->Prop,I=fun i m σ' H'=>m=xs.length - i∧i≤xs.length∧(∃ w,σ'=σ ++ [w])∧Same H1 H'∧∃ ys dn rs,H' Da=some (.lst ys)∧Reps X.K H' (fun a=>B a∨a=Da) dn ys∧ds=dn ++ rs∧dn.length≤i ∧
   z1U (fun x=>(fc (δ ++ [some x])).bind fun k=>if k=true then (fe (δ ++ [some x])).map some else some none) (xs.drop i)=some rs:=⟨_,rfl⟩
 refine ⟨I,⟨xs.length,by rw [hI]; exact ⟨by simp,bA _,⟨none,rfl⟩,z0r hD,[],[],ds,z0o,.nil,rfl,ar _,q1⟩⟩,?_⟩
 intro i m σ' H' hh
 rw [hI] at hh
 obtain ⟨rfl,hi',⟨w,rfl⟩,sm,ys,dn,rs,hys,rys,hds,hln,hrs⟩:=hh
 have kp : Keep X.K (fun a=>B a∨a=Da) H1 H':=.same sm
 by_cases hlt : i < xs.length
 ·refine .inr ⟨it.go i H' kp hlt,fun σ'' H''=>I (i + 1) (xs.length - (i + 1)) σ'' H'',fun σ'' H'' h=>⟨xs.length - (i + 1),by omega,h⟩,fun xv H2 hy=>?_⟩
  obtain ⟨s2,d,hd,rd⟩:=it.yld i H' xv H2 kp hy
  have hdi:=hd hlt
  have hx : xs.drop i=d :: xs.drop (i + 1):=by
   obtain ⟨hl,e⟩:=a7.mp hdi
   rw [bj hl,e]
  rw [hx] at hrs
  obtain ⟨o,rs',e2,e3,e4⟩:=z5f hrs
  show tT X.K fc ((σ ++ [w]).set n (some xv)) H2 _
  rw [← hσ,z8d]
  have hB1 : InB (fun a=>B a∨a=Da) H2:=fun a ha=>ha.elim (fun z=>(((hB.mono s1).mono sm).mono s2) a z) fun z=>⟨_,s2 _ _ (z ▸ hys)⟩
  have S2 : RepS X.K H2 (fun a=>B a∨a=Da) (σ ++ [some xv]) (δ ++ [some d]):=((Sw.mono sm).mono s2).snoc rd
  have hl2 : ys.length < sizeLine:=by
   have:=rys.length
   omega
  cases ec : fc (δ ++ [some d]) with
  | none=>rw [ec] at e2; cases e2
  | some kk=>
   rw [ec] at e2
   have e2' : (if kk=true then (fe (δ ++ [some d])).map some else some none)=some o:=e2
   refine ⟨_,δ ++ [some d],kk,hB1,S2,ec,fun H3 s3=>?_⟩
   cases kk with
   | false=>
    rw [if_neg ao] at e2'
    rw [if_neg ao]
    cases e2'
    rw [hI]
    exact ⟨rfl,hlt,⟨_,rfl⟩,(sm.trans s2).trans s3,ys,dn,rs',s3 _ _ (s2 _ _ hys),(rys.mono s2).mono s3,by rw [hds,e4]; rfl,c9 hln,e3⟩
   | true=>
    rw [if_pos rfl] at e2'
    rw [if_pos rfl]
    cases ey : fe (δ ++ [some d]) with
    | none=>rw [ey] at e2'; cases e2'
    | some y=>
     rw [ey] at e2'
     cases e2'
     refine ⟨_,δ ++ [some d],y,hB1.mono s3,S2.mono s3,ey,fun yv H5 s5 r5=>⟨ys,s5 _ _ (s3 _ _ (s2 _ _ hys)),hl2,?_⟩⟩
     have hu : H5 Da=some (.lst ys):=s5 _ _ (s3 _ _ (s2 _ _ hys))
     rw [hI]
     refine ⟨rfl,hlt,⟨_,rfl⟩,fun b u hb=>?_,ys ++ [yv],dn ++ [y],rs',z0o,?_,by rw [hds,e4,aZ]; rfl,by rw [aK]; simp; omega,e3⟩
     ·rw [z0t (z1q hb hD)]
      exact s5 _ _ (s3 _ _ (s2 _ _ (sm _ _ hb)))
     ·exact Reps.keep (.upd (.inr rfl) (by rw [hu]; exact trivial)) _ (((rys.mono s2).mono s3 |>.mono s5).snoc r5)
 ·have e : i=xs.length:=by omega
  subst e
  refine .inl ⟨it.stop _ H' kp (ar _),?_⟩
  rw [bV] at hrs
  cases hrs
  rw [aL] at hds
  subst hds
  exact k Da ys H' (s1.trans sm) hD0 hys (rys.anti fun a z=>.inl z)
theorem z1L (hc : X.calm=true) (S : CompScope X.N X.env.scope.names N' 1 sc) (hn : n=X.N.length) (hi : PID X (.Name x px) iter fi)
  (hg : ∀ s H fp pins E,PG (z0I X N' sc s H fp pins E) (.Name x px) (z2A n)) (ht : ∀ s H fp pins E,y5M (z0I X N' sc s H fp pins E) ifs (tT X.K fc)) (he : ∀ s H fp pins E,PE (z0I X N' sc s H fp pins E) elt (tD X.K fe))
  (hs : ∀ x,foldedSetIterable iter X.env x=pure x:=by intro _; rfl) : PF X (.ListComp elt [⟨.Name x px,iter,ifs,0⟩] sc pos) (z0X fi fc fe):=by
 intro pins s σ H Q I hq
 exact y0p hc S hi ⟨hg,ht,he⟩ hs pins s σ H Q I (y1P (by rw [hn,I.len]) hq)
theorem y8c {i : Nat} {y : Str} {py spos : Pos} (hN : X.N.Nodup) (hy : X.N[i]? = some y) (hyl : X.env.scope.names.lookup y=some .local) (hc : X.calm=true) (S : CompScope X.N X.env.scope.names N' 1 sc) (hn : n=X.N.length) (hi : PID X (.Name x px) iter fi)
  (hg : ∀ s H fp pins E,PG (z0I X N' sc s H fp pins E) (.Name x px) (z2A n)) (ht : ∀ s H fp pins E,y5M (z0I X N' sc s H fp pins E) ifs (tT X.K fc)) (he : ∀ s H fp pins E,PE (z0I X N' sc s H fp pins E) elt (tD X.K fe))
  (hsw : swapsWith (.ListComp elt [⟨.Name x px,iter,ifs,0⟩] sc pos) (some (.Name y py)) spos.line X.env=pure true:=by rfl) (hs : ∀ x,foldedSetIterable iter X.env x=pure x:=by intro _; rfl) :
  PS X (.Assign [.Name y py] (.ListComp elt [⟨.Name x px,iter,ifs,0⟩] sc pos) spos) (tAsg (tF X.K (z0X fi fc fe)) (z2A i)):=by
 intro pins s σ H D I hq
 exact y4Z hc S hN hy hyl hi ⟨hg,ht,he⟩ hsw hs pins s σ H D I (y1P (by rw [hn,I.len]) hq)
end
end L2
namespace L2
open PySem PySem.Spec PyProof.Rows
inductive SD where
 | sh (d : D) | ow (d : D) | bo (r : Nat) (d : D)
noncomputable abbrev SS:=List (Option SD)
noncomputable def SD.val : SD->D
 | .sh d=>d
 | .ow d=>d
 | .bo _ d=>d
noncomputable def z0u (δ : SS) : DS:=δ.map (Option.map SD.val)
noncomputable def shO : Option SD->Option D
 | some (.sh d)=>some d
 | _=>none
noncomputable def shV (δ : SS) : DS:=δ.map shO
structure RS (K : aa) (H0 : Hp) (B0 : Addr->Prop) (H : Hp) (σ : St) (δ : SS) (R : Nat->List Addr) : Prop where
 keep : Same H0 H
 inB : InB B0 H0
 len : δ.length=σ.length
 new : ∀ r a,a∈R r->H0 a=none
 held : ∀ r a,a∈R r->∃ o,H a=some o∧Mut (some o)
 disj : ∀ r s a,a∈R r->a∈R s->r=s
 sh : ∀ (i : Nat) (d : D),δ[i]? = some (some (.sh d))->∃ v,σ[i]? = some (some v)∧Rep K H (fun a=>B0 a∨∃ r,a∈R r) d v
 bo : ∀ (i r : Nat) (d : D),δ[i]? = some (some (.bo r d))->∃ v,σ[i]? = some (some v)∧Rep K H (fun a=>B0 a∨∃ s,s≠r∧a∈R s) d v
 ow : ∀ (i : Nat) (d : D),δ[i]? = some (some (.ow d))->∃ v,σ[i]? = some (some v)∧Tree K H d v (R i)∧(R i).Nodup
structure Stp (R : Nat->List Addr) (H : Hp) (R' : Nat->List Addr) (H' : Hp) : Prop where
 keep : ∀ a o,H a=some o->(∀ r,a ∉ R r)->H' a=some o
 from' : ∀ r a,a∈R' r->(∃ s,a∈R s)∨H a=none
 there : ∀ a,H' a=none->H a=none
theorem Stp.refl (R : Nat->List Addr) (H : Hp) : Stp R H R H:=⟨fun _ _ h _=>h,fun r _ h=>.inl ⟨r,h⟩,fun _ h=>h⟩
theorem Stp.trans {R R1 R2 : Nat->List Addr} {H H1 H2 : Hp} (a : Stp R H R1 H1) (b : Stp R1 H1 R2 H2) : Stp R H R2 H2:=by
 refine ⟨fun x o h n=>b.keep x o (a.keep x o h n) fun r hr=>?_,fun r x h=>?_,fun x h=>a.there x (b.there x h)⟩
 ·rcases a.from' r x hr with ⟨s,z⟩ | z
  ·exact n s z
  ·rw [h] at z; cases z
 ·rcases b.from' r x h with ⟨s,z⟩ | z
  ·exact a.from' s x z
  ·exact .inr (a.there x z)
theorem Stp.same {R : Nat->List Addr} {H H' : Hp} (e : Same H H') : Stp R H R H':=⟨fun a o h _=>e a o h,fun r _ h=>.inl ⟨r,h⟩,fun _ h=>e.free h⟩
section
variable {K : aa} {H0 H H' : Hp} {B0 : Addr->Prop} {σ : St} {δ : SS} {R : Nat->List Addr}
theorem y6f {i : Nat} {d : D} (h : (z0u δ)[i]? = some (some d)) : ∃ x,δ[i]? = some (some x)∧x.val=d:=by
 unfold z0u at h
 rw [aN] at h
 cases e : δ[i]? with
 | none=>rw [e] at h; cases h
 | some o=>
  rw [e] at h
  cases o with
  | none=>cases h
  | some x=>cases h; exact ⟨x,rfl,rfl⟩
theorem shV_get {i : Nat} {d : D} (h : (shV δ)[i]? = some (some d)) : δ[i]? = some (some (.sh d)):=by
 unfold shV at h
 rw [aN] at h
 cases e : δ[i]? with
 | none=>rw [e] at h; cases h
 | some o=>
  rw [e] at h
  have h' : shO o=some d:=Option.some.inj h
  unfold shO at h'
  split at h'
  ·cases h'; rfl
  ·cases h'
theorem RS.all (h : RS K H0 B0 H σ δ R) : RepS K H noB σ (z0u δ):=by
 refine ⟨by unfold z0u; rw [aq]; exact h.len,fun i d e=>?_⟩
 obtain ⟨x,e',rfl⟩:=y6f e
 cases x with
 | sh d=>
  obtain ⟨v,e1,r⟩:=h.sh i d e'
  exact ⟨v,e1,r.anti fun _ z=>z.elim⟩
 | bo r d=>
  obtain ⟨v,e1,r⟩:=h.bo i r d e'
  exact ⟨v,e1,r.anti fun _ z=>z.elim⟩
 | ow d=>
  obtain ⟨v,e1,t,_⟩:=h.ow i d e'
  exact ⟨v,e1,t.rep d fun _ _ z=>z.elim⟩
theorem RS.shr (h : RS K H0 B0 H σ δ R) : RepS K H (fun a=>B0 a∨∃ r,a∈R r) σ (shV δ):=by
 refine ⟨by unfold shV; rw [aq]; exact h.len,fun i d e=>h.sh i d (shV_get e)⟩
theorem RS.inAll (h : RS K H0 B0 H σ δ R) : InB (fun a=>B0 a∨∃ r,a∈R r) H:=fun a ha=>by
 rcases ha with z | ⟨r,z⟩
 ·exact (h.inB.mono h.keep) a z
 ·obtain ⟨o,e,_⟩:=h.held r a z
  exact ⟨o,e⟩
theorem RS.mono (h : RS K H0 B0 H σ δ R) (e : Same H H') : RS K H0 B0 H' σ δ R:=by
 refine ⟨h.keep.trans e,h.inB,h.len,h.new,fun r a z=>?_,h.disj,fun i d z=>?_,fun i r d z=>?_,fun i d z=>?_⟩
 ·obtain ⟨o,e1,m⟩:=h.held r a z
  exact ⟨o,e a o e1,m⟩
 ·obtain ⟨v,e1,r⟩:=h.sh i d z
  exact ⟨v,e1,r.mono e⟩
 ·obtain ⟨v,e1,r⟩:=h.bo i r d z
  exact ⟨v,e1,r.mono e⟩
 ·obtain ⟨v,e1,t,nd⟩:=h.ow i d z
  exact ⟨v,e1,t.mono e,nd⟩
theorem RS.setSh {i : Nat} {d : D} {v : V} (h : RS K H0 B0 H σ δ R) (r : Rep K H (fun a=>B0 a∨∃ r,a∈R r) d v) : RS K H0 B0 H (σ.set i (some v)) (δ.set i (some (.sh d))) R:=by
 have gs : ∀ {α : Type} {l : List (Option α)} {i j : Nat} {x : Option α} {y : α},(l.set i x)[j]? = some (some y)->(j=i∧x=some y)∨(j≠i∧l[j]? = some (some y)):=fun {α l i j x y} e=>by
  by_cases hj : j=i
  ·subst hj
   rw [b9] at e
   simp only [if_true] at e
   split at e
   ·exact .inl ⟨rfl,Option.some.inj e⟩
   ·cases e
  ·rw [bg (Ne.symm hj)] at e
   exact .inr ⟨hj,e⟩
 have up : ∀ {j : Nat} {w : V},j≠i->σ[j]? = some (some w)->(σ.set i (some v))[j]? = some (some w):=fun hj e=>by rw [bg (Ne.symm hj)]; exact e
 refine ⟨h.keep,h.inB,by simp [h.len],h.new,h.held,h.disj,fun j d' z=>?_,fun j r' d' z=>?_,fun j d' z=>?_⟩
 ·rcases gs z with ⟨rfl,q⟩ | ⟨hj,q⟩
  ·cases q
   have hl : j < σ.length:=by
    rw [← h.len]
    by_cases hl : j < δ.length
    ·exact hl
    ·rw [bM (by simp; omega)] at z; cases z
   exact ⟨v,by rw [b9]; simp [hl],r⟩
  ·obtain ⟨w,e1,r⟩:=h.sh j d' q
   exact ⟨w,up hj e1,r⟩
 ·rcases gs z with ⟨rfl,q⟩ | ⟨hj,q⟩
  ·cases q
  ·obtain ⟨w,e1,r⟩:=h.bo j r' d' q
   exact ⟨w,up hj e1,r⟩
 ·rcases gs z with ⟨rfl,q⟩ | ⟨hj,q⟩
  ·cases q
  ·obtain ⟨w,e1,t⟩:=h.ow j d' q
   exact ⟨w,up hj e1,t⟩
noncomputable def z5t (R : Nat->List Addr) (i : Nat) (A : List Addr) : Nat->List Addr:=fun r=>if r=i then A else R r
theorem z0C {i : Nat} {A : List Addr} : z5t R i A i=A:=if_pos rfl
theorem z0Y {i r : Nat} {A : List Addr} (h : r≠i) : z5t R i A r=R r:=if_neg h
theorem z1V {α : Type} {l : List (Option α)} {i j : Nat} {x : Option α} {y : α} (e : (l.set i x)[j]? = some (some y)) : (j=i∧x=some y∧i < l.length)∨(j≠i∧l[j]? = some (some y)):=by
 by_cases hj : j=i
 ·subst hj
  rw [b9] at e
  simp only [if_true] at e
  split at e
  ·rename_i hl
   exact .inl ⟨rfl,Option.some.inj e,hl⟩
  ·cases e
 ·rw [bg (Ne.symm hj)] at e
  exact .inr ⟨hj,e⟩
theorem RS.setOw {Hold : Hp} {i : Nat} {d : D} {v : V} {A : List Addr} (h : RS K H0 B0 Hold σ δ R) (e : Same Hold H) (t : Tree K H d v A) (nd : A.Nodup) (fr : ∀ a∈A,Hold a=none) : RS K H0 B0 H (σ.set i (some v)) (δ.set i (some (.ow d))) (z5t R i A):=by
 have hm:=h.mono e
 have up : ∀ {j : Nat} {w : V},j≠i->σ[j]? = some (some w)->(σ.set i (some v))[j]? = some (some w):=fun hj e=>by rw [bg (Ne.symm hj)]; exact e
 have hA : ∀ r a,a∈R r->a ∉ A:=fun r a z z'=>by
  obtain ⟨o,q,_⟩:=h.held r a z
  rw [fr a z'] at q; cases q
 have mem : ∀ r a,a∈z5t R i A r->(r=i∧a∈A)∨(r≠i∧a∈R r):=fun r a z=>by
  by_cases hr : r=i
  ·subst hr; rw [z0C] at z; exact .inl ⟨rfl,z⟩
  ·rw [z0Y hr] at z; exact .inr ⟨hr,z⟩
 refine ⟨hm.keep,h.inB,by simp [h.len],fun r a z=>?_,fun r a z=>?_,fun r s a z z'=>?_,fun j d' z=>?_,fun j r' d' z=>?_,fun j d' z=>?_⟩
 ·rcases mem r a z with ⟨_,z⟩ | ⟨_,z⟩
  ·exact h.keep.free (fr a z)
  ·exact h.new r a z
 ·rcases mem r a z with ⟨_,z⟩ | ⟨_,z⟩
  ·exact t.held d a z
  ·exact hm.held r a z
 ·rcases mem r a z with ⟨h1,z⟩ | ⟨h1,z⟩ <;> rcases mem s a z' with ⟨h2,z'⟩ | ⟨h2,z'⟩
  ·rw [h1,h2]
  ·exact absurd z (hA s a z')
  ·exact absurd z' (hA r a z)
  ·exact h.disj r s a z z'
 ·rcases z1V z with ⟨rfl,q,_⟩ | ⟨hj,q⟩
  ·cases q
  ·obtain ⟨w,e1,r⟩:=h.sh j d' q
   refine ⟨w,up hj e1,Rep.anti ?_ d' ((Rep.wide (C:=fun a=>a∈A) fr d' r).mono e)⟩
   rintro a (z | ⟨r,z⟩)
   ·exact .inl (.inl z)
   ·rcases mem r a z with ⟨_,z⟩ | ⟨_,z⟩
    ·exact .inr z
    ·exact .inl (.inr ⟨r,z⟩)
 ·rcases z1V z with ⟨rfl,q,_⟩ | ⟨hj,q⟩
  ·cases q
  ·obtain ⟨w,e1,r⟩:=h.bo j r' d' q
   refine ⟨w,up hj e1,Rep.anti ?_ d' ((Rep.wide (C:=fun a=>a∈A) fr d' r).mono e)⟩
   rintro a (z | ⟨s,hs,z⟩)
   ·exact .inl (.inl z)
   ·rcases mem s a z with ⟨_,z⟩ | ⟨_,z⟩
    ·exact .inr z
    ·exact .inl (.inr ⟨s,hs,z⟩)
 ·rcases z1V z with ⟨rfl,q,hl⟩ | ⟨hj,q⟩
  ·cases q
   rw [z0C]
   exact ⟨v,by rw [b9]; simp [← h.len,hl],t,nd⟩
  ·obtain ⟨w,e1,t'⟩:=hm.ow j d' q
   rw [z0Y hj]
   exact ⟨w,up hj e1,t'⟩
noncomputable def y7d (i : Nat) (δ : SS) : SS:=match δ[i]? with
 | some (some (.ow d))=>δ.set i (some (.sh d))
 | _=>δ
theorem RS.frz (i : Nat) (h : RS K H0 B0 H σ δ R) : ∃ R',RS K H0 B0 H σ (y7d i δ) R'∧∀ r a,a∈R' r->a∈R r:=by
 unfold y7d
 split
 ·rename_i d e
  obtain ⟨v,e1,t,nd⟩:=h.ow i d e
  refine ⟨z5t R i [],?_,fun r a z=>?_⟩
  ·have mem : ∀ r a,a∈z5t R i [] r->r≠i∧a∈R r:=fun r a z=>by
    by_cases hr : r=i
    ·subst hr; rw [z0C] at z; cases z
    ·rw [z0Y hr] at z; exact ⟨hr,z⟩
   refine ⟨h.keep,h.inB,by simp [h.len],fun r a z=>h.new r a (mem r a z).2,fun r a z=>h.held r a (mem r a z).2,fun r s a z z'=>h.disj r s a (mem r a z).2 (mem s a z').2,fun j d' z=>?_,fun j r' d' z=>?_,fun j d' z=>?_⟩
   ·rcases z1V z with ⟨rfl,q,hl⟩ | ⟨hj,q⟩
    ·cases q
     refine ⟨v,e1,t.rep d fun a ha=>?_⟩
     rintro (z | ⟨r,z⟩)
     ·obtain ⟨o,q⟩:=h.inB a z
      rw [h.new j a ha] at q; cases q
     ·exact (mem r a z).1 (h.disj r j a (mem r a z).2 ha)
    ·obtain ⟨w,e2,r⟩:=h.sh j d' q
     exact ⟨w,e2,r.anti fun a z=>z.imp id fun ⟨r,z⟩=>⟨r,(mem r a z).2⟩⟩
   ·rcases z1V z with ⟨rfl,q,_⟩ | ⟨hj,q⟩
    ·cases q
    ·obtain ⟨w,e2,r⟩:=h.bo j r' d' q
     exact ⟨w,e2,r.anti fun a z=>z.imp id fun ⟨s,hs,z⟩=>⟨s,hs,(mem s a z).2⟩⟩
   ·rcases z1V z with ⟨rfl,q,_⟩ | ⟨hj,q⟩
    ·cases q
    ·rw [z0Y hj]
     exact h.ow j d' q
  ·by_cases hr : r=i
   ·subst hr; rw [z0C] at z; cases z
   ·rw [z0Y hr] at z; exact z
 ·exact ⟨R,h,fun _ _ z=>z⟩
end
inductive Out where
 | nx (δ : SS) | bk (δ : SS) | ct (δ : SS) | rt (d : D) | ex (c : Nat) (δ : SS)
noncomputable abbrev XR:=Nat->St->Hp->Prop
noncomputable abbrev noX : XR:=fun _ _ _=>False
noncomputable def Ret (K : aa) (H0 : Hp) (B0 : Addr->Prop) (fr : Bool) (H : Hp) (d : D) (v : V) : Prop:=
 Same H0 H∧(fr=true->∃ A,Tree K H d v A∧A.Nodup∧∀ a∈A,H0 a=none)∧(fr=false->Rep K H B0 d v)
noncomputable def Aft (K : aa) (H0 : Hp) (B0 : Addr->Prop) (fr : Bool) (RX : XR) (R : Nat->List Addr) (H : Hp) (D : Ends) : Out->Prop
 | .nx δ'=>∀ σ' H' R',RS K H0 B0 H' σ' δ' R'->Stp R H R' H'->D.nx σ' H'
 | .bk δ'=>∀ σ' H' R',RS K H0 B0 H' σ' δ' R'->Stp R H R' H'->D.bk σ' H'
 | .ct δ'=>∀ σ' H' R',RS K H0 B0 H' σ' δ' R'->Stp R H R' H'->D.ct σ' H'
 | .rt d=>∀ v H',Ret K H0 B0 fr H' d v->(∀ a,H' a=none->H a=none)->D.rt v H'
 | .ex c δ'=>∀ σ' H' R',RS K H0 B0 H' σ' δ' R'->Stp R H R' H'->RX c σ' H'
noncomputable def tS (K : aa) (H0 : Hp) (B0 : Addr->Prop) (fr : Bool) (RX : XR) (g : SS->Option Out) : TS:=fun D σ H=>∃ δ R o,RS K H0 B0 H σ δ R∧g δ=some o∧Aft K H0 B0 fr RX R H D o
theorem Aft.back {K : aa} {H0 : Hp} {B0 : Addr->Prop} {fr : Bool} {RX : XR} {R R1 : Nat->List Addr} {H H1 : Hp} {D : Ends} {o : Out} (h : Aft K H0 B0 fr RX R H D o) (s : Stp R H R1 H1) : Aft K H0 B0 fr RX R1 H1 D o:=by
 cases o with
 | nx δ'=>exact fun σ' H' R' r t=>h σ' H' R' r (s.trans t)
 | bk δ'=>exact fun σ' H' R' r t=>h σ' H' R' r (s.trans t)
 | ct δ'=>exact fun σ' H' R' r t=>h σ' H' R' r (s.trans t)
 | rt d=>exact fun v H' r t=>h v H' r fun a z=>s.there a (t a z)
 | ex c δ'=>exact fun σ' H' R' r t=>h σ' H' R' r (s.trans t)
theorem PS.imp {X : Cx} {st : Stmt} {t t' : TS} (h : PS X st t) (w : ∀ D σ H,t' D σ H->t D σ H) : PS X st t':=fun pins s σ H D I q=>h pins s σ H D I (w D σ H q)
theorem PSs.imp {X : Cx} {st : List Stmt} {t t' : TS} (h : PSs X st t) (w : ∀ D σ H,t' D σ H->t D σ H) : PSs X st t':=fun pins s σ H D I q=>h pins s σ H D I (w D σ H q)
section
variable {X : Cx} {H0 : Hp} {B0 : Addr->Prop} {fr : Bool} {RX : XR} {st : Stmt} {sts : List Stmt} {e : Expr} {pos : Pos}
noncomputable def z1i (g h : SS->Option Out) : SS->Option Out:=fun δ=>(g δ).bind fun o=>match o with
 | .nx δ'=>h δ'
 | o=>some o
noncomputable def z3C : SS->Option Out:=fun δ=>some (.nx δ)
theorem z2p : PSs X [] (tS X.K H0 B0 fr RX z3C):=pss_nil.imp fun D σ H z_=>by
 obtain ⟨δ,R,o,rs,q,k⟩:=z_
 cases q
 exact k σ H R rs (.refl R H)
theorem z0f {g h : SS->Option Out} (h1 : PS X st (tS X.K H0 B0 fr RX g)) (h2 : PSs X sts (tS X.K H0 B0 fr RX h)) : PSs X (st :: sts) (tS X.K H0 B0 fr RX (z1i g h)):=(y7P h1 h2).imp fun D σ H z_=>by
 obtain ⟨δ,R,o,rs,q,k⟩:=z_
 unfold z1i at q
 cases e : g δ with
 | none=>rw [e] at q; cases q
 | some o1=>
  rw [e] at q
  refine ⟨δ,R,o1,rs,e,?_⟩
  cases o1 with
  | nx δ'=>
   have q' : h δ'=some o:=q
   exact fun σ' H' R' rs' s'=>⟨δ',R',o,rs',q',k.back s'⟩
  | bk δ'=>cases q; exact k
  | ct δ'=>cases q; exact k
  | rt d=>cases q; exact k
  | ex c δ'=>cases q; exact k
theorem z0i {g : SS->Option Out} (h1 : PS X st (tS X.K H0 B0 fr RX g)) : PSs X [st] (tS X.K H0 B0 fr RX g):=pss_one h1
noncomputable abbrev PAsg (X : Cx) (st : Stmt) (i : Nat) (te : TE) : Prop:=PS X st (tAsg te (z2A i))
theorem PAsg.imp {i : Nat} {t t' : TE} (h : PAsg X st i t) (w : ∀ σ H Q,t' σ H Q->t σ H Q) : PAsg X st i t':=PS.imp h fun D σ H q=>w σ H _ q
theorem z1d {i : Nat} {x : Str} {te : TE} {pos' : Pos} (hN : X.N.Nodup) (hi : X.N[i]? = some x) (hx : Loc X.env.scope x) (he : PE X e te) (hs : swapsWith e (some (.Name x pos')) pos.line X.env=pure false:=by rfl) (hf : X.fn x=true∨X.env.scope.names.lookup x=some .local:=by first | exact .inl rfl | exact .inr rfl | assumption) :
  PAsg X (.Assign [.Name x pos'] e pos) i te:=ps_set hN hi hx he hs hf
noncomputable def y7A (i : Nat) (f : DE) : SS->Option Out:=fun δ=>(f (shV δ)).map fun d=>.nx (δ.set i (some (.sh d)))
noncomputable def y3d (i : Nat) (f : DE) : SS->Option Out:=fun δ=>(f (z0u δ)).bind fun d=>if d.imm=true then some (.nx (δ.set i (some (.sh d)))) else none
noncomputable def z4p (i : Nat) (f : DE) : SS->Option Out:=fun δ=>(f (z0u δ)).map fun d=>.nx (δ.set i (some (.ow d)))
theorem z9f {i : Nat} {f : DE} (h : PAsg X st i (tD X.K f)) : PS X st (tS X.K H0 B0 fr RX (y7A i f)):=PS.imp h fun D σ H z_=>by
 obtain ⟨δ,R,o,rs,q,k⟩:=z_
 unfold y7A at q
 cases e : f (shV δ) with
 | none=>rw [e] at q; cases q
 | some d=>
  rw [e] at q
  cases q
  exact ⟨_,shV δ,d,rs.inAll,rs.shr,e,fun v H' s r=>k _ H' R ((rs.mono s).setSh r) (.same s)⟩
theorem z6a {i : Nat} {f : DE} (h : PAsg X st i (tD X.K f)) : PS X st (tS X.K H0 B0 fr RX (y3d i f)):=PS.imp h fun D σ H z_=>by
 obtain ⟨δ,R,o,rs,q,k⟩:=z_
 unfold y3d at q
 cases e : f (z0u δ) with
 | none=>rw [e] at q; cases q
 | some d=>
  rw [e] at q
  have q' : (if d.imm=true then some (Out.nx (δ.set i (some (.sh d)))) else none)=some o:=q
  split at q'
  ·rename_i hi
   cases q'
   exact ⟨noB,z0u δ,d,.no,rs.all,e,fun v H' s r=>k _ H' R ((rs.mono s).setSh (r.imm d hi)) (.same s)⟩
  ·cases q'
theorem z0W {i : Nat} {f : DE} (h : PAsg X st i (tN X.K f)) : PS X st (tS X.K H0 B0 fr RX (z4p i f)):=PS.imp h fun D σ H z_=>by
 obtain ⟨δ,R,o,rs,q,k⟩:=z_
 unfold z4p at q
 cases e : f (z0u δ) with
 | none=>rw [e] at q; cases q
 | some d=>
  rw [e] at q
  cases q
  refine ⟨z0u δ,d,rs.all,e,fun v H' A s t nd fr'=>k _ H' (z5t R i A) (rs.setOw s t nd fr') ⟨fun a o h _=>s a o h,fun r a z=>?_,fun a z=>s.free z⟩⟩
  by_cases hr : r=i
  ·subst hr; rw [z0C] at z; exact .inr (fr' a z)
  ·rw [z0Y hr] at z; exact .inl ⟨r,z⟩
noncomputable def z5H (f : DE) : SS->Option Out:=fun δ=>(f (z0u δ)).bind fun d=>if d.imm=true then some (.rt d) else none
noncomputable def z8l (f : DE) : SS->Option Out:=fun δ=>(f (z0u δ)).map .rt
noncomputable def retS (f : DE) : SS->Option Out:=fun δ=>(f (shV δ)).map .rt
noncomputable def y2d (i : Nat) : SS->Option Out:=fun δ=>match δ[i]? with
 | some (some (.ow d))=>some (.rt d)
 | _=>none
theorem z1z {f : DE} (h : PD X e f) : PS X (.Return (some e) pos) (tS X.K H0 B0 fr RX (z5H f)):=PS.imp (z7c h) fun D σ H z_=>by
 obtain ⟨δ,R,o,rs,q,k⟩:=z_
 unfold z5H at q
 cases e : f (z0u δ) with
 | none=>rw [e] at q; cases q
 | some d=>
  rw [e] at q
  have q' : (if d.imm=true then some (Out.rt d) else none)=some o:=q
  split at q'
  ·rename_i hi
   cases q'
   exact ⟨noB,z0u δ,d,.no,rs.all,e,fun v H' s r=>k v H' ⟨rs.keep.trans s,fun _=>⟨[],r.immTree d hi,bf,(fun a z=>nomatch z)⟩,fun _=>r.imm d hi⟩ fun a z=>s.free z⟩
  ·cases q'
theorem z2y {f : DE} (h : PN X e f) : PS X (.Return (some e) pos) (tS X.K H0 B0 fr RX (z8l f)):=PS.imp (z7c h) fun D σ H z_=>by
 obtain ⟨δ,R,o,rs,q,k⟩:=z_
 unfold z8l at q
 cases e : f (z0u δ) with
 | none=>rw [e] at q; cases q
 | some d=>
  rw [e] at q
  cases q
  exact ⟨z0u δ,d,rs.all,e,fun v H' A s t nd fr'=>k v H' ⟨rs.keep.trans s,fun _=>⟨A,t,nd,fun a z=>rs.keep.free (fr' a z)⟩,fun _=>t.rep d fun a z=>rs.inB.fresh (rs.keep.free (fr' a z))⟩ fun a z=>s.free z⟩
theorem y8j {f : DE} (h : PD X e f) : PS X (.Return (some e) pos) (tS X.K H0 B0 false RX (retS f)):=PS.imp (z7c h) fun D σ H z_=>by
 obtain ⟨δ,R,o,rs,q,k⟩:=z_
 unfold retS at q
 cases e : f (shV δ) with
 | none=>rw [e] at q; cases q
 | some d=>
  rw [e] at q
  cases q
  exact ⟨_,shV δ,d,rs.inAll,rs.shr,e,fun v H' s r=>k v H' ⟨rs.keep.trans s,(fun z=>nomatch z),fun _=>r.anti fun a z=>.inl z⟩ fun a z=>s.free z⟩
theorem z4G {i : Nat} (h : PE X e (z7x i)) : PS X (.Return (some e) pos) (tS X.K H0 B0 fr RX (y2d i)):=PS.imp (z7c h) fun D σ H z_=>by
 obtain ⟨δ,R,o,rs,q,k⟩:=z_
 unfold y2d at q
 split at q
 ·rename_i d e
  cases q
  obtain ⟨v,e1,t,nd⟩:=rs.ow i d e
  exact ⟨v,e1,k v H ⟨rs.keep,fun _=>⟨R i,t,nd,fun a z=>rs.new i a z⟩,fun _=>t.rep d fun a z=>rs.inB.fresh (rs.new i a z)⟩ fun a z=>z⟩
 ·cases q
noncomputable def ifO (c : DS->Option Bool) (g h : SS->Option Out) : SS->Option Out:=fun δ=>(c (z0u δ)).bind fun b=>if b=true then g δ else h δ
theorem z9S {c : Expr} {a b : List Stmt} {f : DS->Option Bool} {g h : SS->Option Out} (hc : PTD X c f) (ha : PSs X a (tS X.K H0 B0 fr RX g)) (hb : PSs X b (tS X.K H0 B0 fr RX h)) : PS X (.If c a b pos) (tS X.K H0 B0 fr RX (ifO f g h)):=PS.imp (ps_if hc ha hb) fun D σ H z_=>by
 obtain ⟨δ,R,o,rs,q,k⟩:=z_
 unfold ifO at q
 cases e : f (z0u δ) with
 | none=>rw [e] at q; cases q
 | some b=>
  rw [e] at q
  have q' : (if b=true then g δ else h δ)=some o:=q
  refine ⟨noB,z0u δ,b,.no,rs.all,e,fun H' s=>?_⟩
  cases b with
  | true=>
   rw [if_pos rfl] at q'
   refine iteT ?_
   exact ⟨δ,R,o,rs.mono s,q',k.back (.same s)⟩
  | false=>
   rw [if_neg ao] at q'
   refine iteF ?_
   exact ⟨δ,R,o,rs.mono s,q',k.back (.same s)⟩
noncomputable def frzO (i : Nat) (g : SS->Option Out) : SS->Option Out:=fun δ=>g (y7d i δ)
theorem s_frz (i : Nat) {g : SS->Option Out} (h : PS X st (tS X.K H0 B0 fr RX g)) : PS X st (tS X.K H0 B0 fr RX (frzO i g)):=PS.imp h fun D σ H z_=>by
 obtain ⟨δ,R,o,rs,q,k⟩:=z_
 obtain ⟨R',rs',hs⟩:=rs.frz i
 exact ⟨y7d i δ,R',o,rs',q,k.back ⟨fun a o h _=>h,fun r a z=>.inl ⟨r,hs r a z⟩,fun a z=>z⟩⟩
noncomputable def z5z (i : Nat) (b : SS->Option Out) : List D->SS->Option Out
 | [],δ=>some (.nx δ)
 | x :: r,δ=>(b (δ.set i (some (.sh x)))).bind fun o=>match o with
  | .nx δ'=>z5z i b r δ'
  | .ct δ'=>z5z i b r δ'
  | .bk δ'=>some (.nx δ')
  | .rt d=>some (.rt d)
  | .ex c δ'=>some (.ex c δ')
noncomputable def z8C (i : Nat) (f : DS->Option (List D)) (b : SS->Option Out) : SS->Option Out:=fun δ=>(f (shV δ)).bind fun ds=>z5z i b ds δ
theorem Stp.keepB {K : aa} {R R' : Nat->List Addr} {H H' : Hp} {B : Addr->Prop} (s : Stp R H R' H') (hR : ∀ r a,a∈R r->B a) (hm : ∀ r a,a∈R r->∃ o,H a=some o∧Mut (some o)) : Keep K B H H':=by
 have kp : ∀ a o,H a=some o->¬ Mut (some o)->H' a=some o:=fun a o e n=>s.keep a o e fun r z=>by
  obtain ⟨o',e',m⟩:=hm r a z
  rw [e] at e'; cases e'
  exact n m
 refine ⟨fun a xs n h=>s.keep a _ h fun r z=>n (hR r a z),fun a xs h=>?_,fun a xs h=>?_,fun a kvs n h=>s.keep a _ h fun r z=>n (hR r a z),fun a φ n h=>s.keep a _ h fun r z=>n (hR r a z)⟩
 ·rcases h with (h | ⟨o,h⟩) | h
  ·exact .inl (.inl (kp a _ h fun z=>z))
  ·exact .inl (.inr ⟨o,kp a _ h fun z=>z⟩)
  ·exact .inr h
 ·rcases h with ⟨o,h⟩ | h
  ·exact .inl ⟨o,kp a _ h fun z=>z⟩
  ·exact .inr h
theorem z4O {i : Nat} {x : Str} {px : Pos} {iter : Expr} {body : List Stmt} {f : DS->Option (List D)} {g : SS->Option Out} (hp : PassesOwn (model X.prog X.w) X.A X.env X.xe) (hc : X.calm=true) (hi : PID X (.Name x px) iter f) (hg : PG X (.Name x px) (z2A i)) (hb : PSs X body (tS X.K H0 B0 fr RX g))
  (hs : ∀ x,foldedSetIterable iter X.env x=pure x:=by intro _; rfl) : PS X (.For (.Name x px) iter body [] pos) (tS X.K H0 B0 fr RX (z8C i f g)):=PS.imp (y5o hp hc hi hg hb hs) fun D σ H z_=>by
 obtain ⟨δ,R,o,rs,q,k⟩:=z_
 unfold z8C at q
 cases e : f (shV δ) with
 | none=>rw [e] at q; cases q
 | some ds=>
 rw [e] at q
 have q : z5z i g ds δ=some o:=q
 refine ⟨_,shV δ,ds,rs.inAll,rs.shr,e,fun J H1 s1 itw=>?_⟩
 have rs1:=rs.mono s1
 have it:=itw (fun a=>H1 a=none) fun a z=>z
 refine ⟨fun n m σ' H'=>m=ds.length - n∧n≤ds.length∧∃ δ' R',RS X.K H0 B0 H' σ' δ' R'∧Stp R H1 R' H'∧z5z i g (ds.drop n) δ'=some o,⟨ds.length,by simp,bA _,δ,R,rs1,.refl R H1,q⟩,?_⟩
 rintro n m σ' H' ⟨rfl,hn,δ',R',rs',s',q'⟩
 have kp : Keep X.K (fun a=>(B0 a∨∃ r,a∈R r)∨H1 a=none) H1 H':=s'.keepB (fun r a z=>.inl (.inr ⟨r,z⟩)) rs1.held
 by_cases hlt : n < ds.length
 ·have hx : ds.drop n=ds[n] :: ds.drop (n + 1):=bj hlt
  rw [hx] at q'
  unfold z5z at q'
  cases eb : g (δ'.set i (some (.sh ds[n]))) with
  | none=>rw [eb] at q'; cases q'
  | some ob=>
   rw [eb] at q'
   refine .inr ⟨it.go n H' kp hlt,fun σ2 H2=>n + 1≤ds.length∧∃ δ2 R2,RS X.K H0 B0 H2 σ2 δ2 R2∧Stp R H1 R2 H2∧z5z i g (ds.drop (n + 1)) δ2=some o,fun σ2 H2 z=>⟨ds.length - (n + 1),by omega,rfl,z⟩,fun xv H2 hy=>?_⟩
   obtain ⟨s2,d,hd,rd⟩:=it.yld n H' xv H2 kp hy
   have hdi : d=ds[n]:=by
    have:=hd hlt
    rw [ae hlt] at this
    exact (Option.some.inj this).symm
   subst hdi
   have rd' : Rep X.K H2 (fun a=>B0 a∨∃ r,a∈R' r) ds[n] xv:=rd.anti fun a z=>by
    rcases z with z | ⟨r,z⟩
    ·exact .inl (.inl z)
    ·rcases s'.from' r a z with z | z
     ·exact .inl (.inr z)
     ·exact .inr z
   have rs2:=(rs'.mono s2).setSh (i:=i) rd'
   have st2 : Stp R H1 R' H2:=s'.trans (.same s2)
   refine ⟨_,R',ob,rs2,eb,?_⟩
   cases ob with
   | nx δ2=>
    have q2 : z5z i g (ds.drop (n + 1)) δ2=some o:=q'
    exact fun σ3 H3 R3 rs3 s3=>⟨hlt,δ2,R3,rs3,st2.trans s3,q2⟩
   | ct δ2=>
    have q2 : z5z i g (ds.drop (n + 1)) δ2=some o:=q'
    exact fun σ3 H3 R3 rs3 s3=>⟨hlt,δ2,R3,rs3,st2.trans s3,q2⟩
   | bk δ2=>
    cases q'
    exact fun σ3 H3 R3 rs3 s3=>k σ3 H3 R3 rs3 ((Stp.same s1).trans (st2.trans s3))
   | rt d=>
    cases q'
    exact k.back ((Stp.same s1).trans st2)
   | ex c δ2=>
    cases q'
    exact k.back ((Stp.same s1).trans st2)
 ·have en : n=ds.length:=by omega
  subst en
  rw [bV] at q'
  cases q'
  exact .inl ⟨it.stop _ H' kp (ar _),k σ' H' R' rs' ((Stp.same s1).trans s')⟩
end
noncomputable def z2z (np nl : Nat) (g : SS->Option Out) : List D->Option D:=fun ds=>if ds.length=np then (match g (ds.map (fun d=>some (.sh d)) ++ aj nl none) with
 | some (.rt d)=>some d
 | some (.nx _)=>some .non
 | _=>none) else none
theorem z5I {np nl : Nat} {g : SS->Option Out} {ds : List D} {d : D} (h : z2z np nl g ds=some d) : ds.length=np:=by
 unfold z2z at h
 split at h
 ·assumption
 ·cases h
theorem z7U {K : aa} {H : Hp} {B : Addr->Prop} {ds : List D} {vs : List V} {N : List Str} {nl : Nat} (hB : InB B H) (r : Reps K H B ds vs) (hN : N.length=ds.length + nl) :
  RS K H B H (z4d N vs) (ds.map (fun d=>some (.sh d)) ++ aj nl none) (fun _=>[]):=by
 have hl:=r.length
 have get : ∀ {i : Nat} {x : SD},(ds.map (fun d=>some (SD.sh d)) ++ aj nl none)[i]? = some (some x)->∃ d,ds[i]? = some d∧x = .sh d:=fun {i x} e=>by
  by_cases hi : i < ds.length
  ·rw [a9 (by simpa using hi),aN,ae hi] at e
   cases e
   exact ⟨ds[i],ae hi,rfl⟩
  ·rw [bv (by simpa using hi),bI] at e
   split at e <;> cases e
 refine ⟨.refl H,hB,?_,(fun _ _ z=>nomatch z),(fun _ _ z=>nomatch z),(fun _ _ _ z=>nomatch z),fun i d e=>?_,fun i r d e=>?_,fun i d e=>?_⟩
 ·unfold z4d
  simp
  omega
 ·obtain ⟨d',e1,e2⟩:=get e
  cases e2
  obtain ⟨v,e3,rv⟩:=r.get e1
  refine ⟨v,?_,rv.anti fun a z=>z.elim id (fun ⟨_,z⟩=>nomatch z)⟩
  unfold z4d
  have hi : i < vs.length:=(a7.mp e3).1
  rw [a9 (by simpa using hi),aN,e3]
  rfl
 ·obtain ⟨d',_,e2⟩:=get e
  cases e2
 ·obtain ⟨d',_,e2⟩:=get e
  cases e2
section
variable {P : Program} {w : World} {K : aa} {mg : Str->Option Value} {base : Heap}
theorem fnN {x qual : Str} {st : Stmt} {f : Addr} {fd : FuncData} {N ps : List Str} {k np nl : Nat} {g : SS->Option Out} (F : Fun K x qual st f fd) (S : FnScope N ps (z0b st)) (hnp : ps.length=np) (hN : N.length=np + nl)
  (hbody : ∀ (cdv : Value) (A : Around) (outer : List Env) (s : Shared) (H : Hp) (E : XK),Room k (A.deeper (envOfC qual (z0b st) s.heap.objs.size f cdv)) →
   PSs (z9R CX0 P w K mg base N qual (z0b st) f cdv A outer s H E).nox (z0l st) (tS K H noB true noX g)) : FnOk P w K mg base CX0 (k + 1) f fd ps (spN K (z2z np nl g)):=by
 refine F.ok S (fun vs H Q E h=>?_) fun cdv A outer s H vs Q E hr h=>?_
 ·obtain ⟨ds,d,r,e,_⟩:=h
  rw [← r.length,z5I e,hnp]
 ·obtain ⟨ds,d,r,e,kk⟩:=h
  refine ⟨_,hbody cdv A outer s H E hr,?_⟩
  have hl:=z5I e
  unfold z2z at e
  rw [if_pos hl] at e
  have rs:=z7U (nl:=nl) .no r (N:=N) (by omega)
  split at e
  ·rename_i d' eg
   cases e
   exact ⟨_,_,_,rs,eg,fun v H' z _=>by
    obtain ⟨A',t,nd,fr⟩:=z.2.1 rfl
    exact kk v H' A' z.1 t nd fr⟩
  ·rename_i δ' eg
   cases e
   exact ⟨_,_,_,rs,eg,fun σ' H' R' rs' _=>kk .non H' [] rs'.keep ⟨rfl,rfl⟩ bf (fun a z=>nomatch z)⟩
  ·cases e
theorem z4e {x qual : Str} {st : Stmt} {f : Addr} {fd : FuncData} {N ps : List Str} {k np nl : Nat} {g : SS->Option Out} (F : Fun K x qual st f fd) (hm : mg x=some (.ref f)) (hb : Binds K fd ps []) (S : FnScope N ps (z0b st)) (hnp : ps.length=np) (hN : N.length=np + nl)
  (hbody : ∀ (cdv : Value) (A : Around) (outer : List Env) (s : Shared) (H : Hp) (E : XK),Room k (A.deeper (envOfC qual (z0b st) s.heap.objs.size f cdv)) →
   PSs (z9R CX0 P w K mg base N qual (z0b st) f cdv A outer s H E).nox (z0l st) (tS K H noB true noX g)) : DefOk P w K mg base (k + 1) x (spN K (z2z np nl g)):=
 ⟨f,fd,ps,hm,F.kp,hb,fnN F S hnp hN hbody⟩
theorem defR {x qual : Str} {st : Stmt} {f : Addr} {fd : FuncData} {N ps : List Str} {k np nl : Nat} {g : SS->Option Out} (F : Fun K x qual st f fd) (hm : mg x=some (.ref f)) (hb : Binds K fd ps []) (S : FnScope N ps (z0b st)) (hnp : ps.length=np) (hN : N.length=np + nl)
  (hbody : ∀ (cdv : Value) (A : Around) (outer : List Env) (s : Shared) (H : Hp) (E : XK) (B : Addr->Prop),Room k (A.deeper (envOfC qual (z0b st) s.heap.objs.size f cdv)) →
   PSs (z9R CX0 P w K mg base N qual (z0b st) f cdv A outer s H E).nox (z0l st) (tS K H B false noX g)) : DefOk P w K mg base (k + 1) x (spR K (z2z np nl g)):=by
 refine ⟨f,fd,ps,hm,F.kp,hb,F.ok S (fun vs H Q E h=>?_) fun cdv A outer s H vs Q E hr h=>?_⟩
 ·obtain ⟨B,ds,d,_,r,e,_⟩:=h
  rw [← r.length,z5I e,hnp]
 ·obtain ⟨B,ds,d,hB,r,e,kk⟩:=h
  refine ⟨_,hbody cdv A outer s H E B hr,?_⟩
  have hl:=z5I e
  unfold z2z at e
  rw [if_pos hl] at e
  have rs:=z7U (nl:=nl) hB r (N:=N) (by omega)
  split at e
  ·rename_i d' eg
   cases e
   exact ⟨_,_,_,rs,eg,fun v H' z _=>kk v H' z.1 (z.2.2 rfl)⟩
  ·rename_i δ' eg
   cases e
   exact ⟨_,_,_,rs,eg,fun σ' H' R' rs' _=>kk .non H' rs'.keep rfl⟩
  ·cases e
end
end L2
namespace L2
open PySem PySem.Spec PyProof.Rows PySem.SeqAt
mutual
def toP : D->PyData
 | .non=>.none
 | .bl b=>.bool b
 | .int i=>.int i
 | .str x=>.str x
 | .lst ds=>.list (z4F ds)
 | .tup ds=>.tuple (z4F ds)
 | .scr ns=>.list (ns.map .int)
 | .dct _ _=>.dict []
 | .exc _=>.dict []
def z4F : List D->List PyData
 | []=>[]
 | d :: ds=>toP d :: z4F ds
end
theorem z6W {h : Heap} : ∀ (ns : List Int) {us : List Value},Vals (ns.map V.int) us->∃ as,ReadsAll h us (ns.map .int) as
 | [],_,.nil=>⟨_,.nil⟩
 | n :: ns,_,.cons r t=>by
  obtain ⟨tk,rfl⟩:=r
  obtain ⟨as,ra⟩:=z6W (h:=h) ns t
  exact ⟨_,.cons (.int n tk) ra⟩
section
variable {X : Cx} {pins : List (Addr × Obj)} {σ : St} {H : Hp} {s : Shared} {B : Addr->Prop}
mutual
theorem z0P (I : Inv X pins σ H s) : ∀ (d : D) {v : V} {u : Value},(toP d).canLay0=true->Rep X.K H B d v->RelV v u->∃ as,Reads s.heap u (toP d) as
 | .non,_,_,_,h,r=>by cases h; cases r; exact ⟨_,.none⟩
 | .bl b,_,_,_,h,r=>by cases h; cases r; exact ⟨_,.bool b⟩
 | .int i,_,_,_,h,r=>by cases h; obtain ⟨t,rfl⟩:=r; exact ⟨_,.int i t⟩
 | .str x,_,_,_,h,r=>by cases h; obtain ⟨t,rfl⟩:=r; exact ⟨_,.str x t⟩
 | .lst ds,_,_,hc,h,r=>by
  unfold Rep at h
  obtain ⟨a,xs,rfl,_,hq,rs⟩:=h
  cases r
  obtain ⟨its,rv,⟨o,n,e,c,_,dt⟩,_⟩:=I.list (SqL.of hq)
  have hc' : PyData.canLayAll0 (z4F ds)=true:=by unfold toP PyData.canLay0 at hc; exact hc
  obtain ⟨as,ra⟩:=z5m I ds hc' rs rv
  unfold toP
  exact ⟨_,.list e c dt (by simpa using ra)⟩
 | .tup ds,_,_,hc,h,r=>by
  unfold Rep at h
  obtain ⟨a,xs,rfl,hq,rs⟩:=h
  cases r
  obtain ⟨its,rv,⟨o,e,c,n,dt⟩,_⟩:=I.tuple hq
  have hc' : PyData.canLayAll0 (z4F ds)=true:=by unfold toP PyData.canLay0 at hc; exact hc
  obtain ⟨as,ra⟩:=z5m I ds hc' rs rv
  unfold toP
  exact ⟨_,.tuple e c dt (by simpa using ra)⟩
 | .scr ns,_,_,hc,h,r=>by
  unfold Rep at h
  obtain ⟨a,rfl,hq⟩:=h
  cases r
  obtain ⟨its,rv,⟨o,n,e,c,_,dt⟩,_⟩:=I.list hq.sq
  unfold toP
  obtain ⟨as,ra⟩:=z6W (h:=s.heap) ns rv
  exact ⟨_,.list e c dt (by simpa using ra)⟩
 | .dct _ _,_,_,hc,_,_=>by unfold toP PyData.canLay0 at hc; cases hc
 | .exc _,_,_,hc,_,_=>by unfold toP PyData.canLay0 at hc; cases hc
theorem z5m (I : Inv X pins σ H s) : ∀ (ds : List D) {xs : List V} {us : List Value},PyData.canLayAll0 (z4F ds)=true->Reps X.K H B ds xs->Vals xs us->∃ as,ReadsAll s.heap us (z4F ds) as
 | [],_,_,_,h,r=>by
  unfold Reps at h
  subst h
  cases r
  exact ⟨_,.nil⟩
 | d :: ds,_,_,hc,h,r=>by
  unfold Reps at h
  obtain ⟨x,rr,rfl,h1,h2⟩:=h
  unfold z4F PyData.canLayAll0 at hc
  rw [aJ] at hc
  cases r with
  | cons r1 r2=>
   obtain ⟨as,ra⟩:=z0P I d hc.1 h1 r1
   obtain ⟨bs,rb⟩:=z5m I ds hc.2 h2 r2
   unfold z4F
   exact ⟨_,.cons ra rb⟩
end
end
noncomputable def okP (d : D) : Bool:=(toP d).canLay0 && decide ((toP d).depth≤60)
noncomputable def eqD (x y : D) : Option D:=if (okP x && okP y)=true then some (.bl (PyData.eqv (toP x) (toP y))) else none
noncomputable def neD (x y : D) : Option D:=if (okP x && okP y)=true then some (.bl (!PyData.eqv (toP x) (toP y))) else none
noncomputable def y4g (x : D) : D->Option Bool
 | .lst ds=>if (okP x && okP (.lst ds))=true then some (ds.any fun y=>PyData.eqv (toP y) (toP x)) else none
 | .tup ds=>if (okP x && okP (.tup ds))=true then some (ds.any fun y=>PyData.eqv (toP y) (toP x)) else none
 | _=>none
noncomputable def inD (x y : D) : Option D:=(y4g x y).map .bl
noncomputable def y8a (x y : D) : Option D:=(y4g x y).map fun b=>.bl (!b)
noncomputable def rEqD (K : aa) : R2:=fun x y H Q=>∃ B dx dy,Rep K H B dx x∧Rep K H B dy y∧okP dx=true∧okP dy=true∧Q (.bl (PyData.eqv (toP dx) (toP dy))) H
noncomputable def rNeD (K : aa) : R2:=fun x y H Q=>∃ B dx dy,Rep K H B dx x∧Rep K H B dy y∧okP dx=true∧okP dy=true∧Q (.bl (!PyData.eqv (toP dx) (toP dy))) H
theorem z0w {d : D} (h : okP d=true) : (toP d).canLay0=true∧(toP d).depth≤60:=by
 unfold okP at h
 rw [aJ,decide_eq_true_eq] at h
 exact h
section
variable {X : Cx}
theorem y8E (hu : X.A.units + 64 < cLine) : OpR X (compareOp .Eq) (rEqD X.K):=by
 intro pins s σ H x y v u Q I rx ry h
 obtain ⟨B,dx,dy,r1,r2,o1,o2,q⟩:=h
 obtain ⟨as,ra⟩:=z0P I dx (z0w o1).1 r1 rx
 obtain ⟨bs,rb⟩:=z0P I dy (z0w o2).1 r2 ry
 exact compareEq_reads ra rb (z0w o1).1 (z0w o2).1 (by have:=(z0w o1).2; omega) ⟨.bl _,H,I,rfl,q⟩
theorem op_neD (hu : X.A.units + 64 < cLine) : OpR X (compareOp .NotEq) (rNeD X.K):=by
 intro pins s σ H x y v u Q I rx ry h
 obtain ⟨B,dx,dy,r1,r2,o1,o2,q⟩:=h
 obtain ⟨as,ra⟩:=z0P I dx (z0w o1).1 r1 rx
 obtain ⟨bs,rb⟩:=z0P I dy (z0w o2).1 r2 ry
 exact compareNe_reads ra rb (z0w o1).1 (z0w o2).1 (by have:=(z0w o1).2; omega) ⟨.bl _,H,I,rfl,q⟩
theorem o2_eq {K : aa} : Op2 K (rEqD K) eqD:=by
 intro H B dx dy d x y Q hB hx hy q k
 unfold eqD at q
 split at q
 ·rename_i h
  rw [aJ] at h
  cases q
  exact ⟨B,dx,dy,hx,hy,h.1,h.2,k _ H (.refl H) rfl⟩
 ·cases q
theorem o2_ne {K : aa} : Op2 K (rNeD K) neD:=by
 intro H B dx dy d x y Q hB hx hy q k
 unfold neD at q
 split at q
 ·rename_i h
  rw [aJ] at h
  cases q
  exact ⟨B,dx,dy,hx,hy,h.1,h.2,k _ H (.refl H) rfl⟩
 ·cases q
theorem z4E (p : PyData->Bool) : ∀ ds : List D,(z4F ds).any p=ds.any fun y=>p (toP y)
 | []=>rfl
 | d :: ds=>by unfold z4F; rw [ck,ck,z4E p ds]
noncomputable def rInD (K : aa) (neg : Bool) : R2:=fun x y H Q=>∃ B dx dy b,Rep K H B dx x∧Rep K H B dy y∧y4g dx dy=some b∧Q (.bl (if neg then !b else b)) H
theorem op_inD (hu : X.A.units + 64 < cLine) : OpR X (compareOp .In) (rInD X.K false):=by
 intro pins s σ H x y v u Q I rx ry h
 obtain ⟨B,dx,dy,b,r1,r2,o,q⟩:=h
 unfold y4g at o
 split at o
 ·split at o
  ·rename_i ds h
   rw [aJ] at h
   cases o
   obtain ⟨as,ra⟩:=z0P I dx (z0w h.1).1 r1 rx
   obtain ⟨bs,rb⟩:=z0P I _ (z0w h.2).1 r2 ry
   have hc:=(z0w h.2).1
   unfold toP at rb hc
   unfold PyData.canLay0 at hc
   refine in_list_reads rb ra hc (z0w h.1).1 (by have:=(z0w h.1).2; omega) ?_
   rw [z4E]
   exact ⟨.bl _,H,I,rfl,q⟩
  ·cases o
 ·split at o
  ·rename_i ds h
   rw [aJ] at h
   cases o
   obtain ⟨as,ra⟩:=z0P I dx (z0w h.1).1 r1 rx
   obtain ⟨bs,rb⟩:=z0P I _ (z0w h.2).1 r2 ry
   have hc:=(z0w h.2).1
   unfold toP at rb hc
   unfold PyData.canLay0 at hc
   refine in_tuple_reads rb ra hc (z0w h.1).1 (by have:=(z0w h.1).2; omega) ?_
   rw [z4E]
   exact ⟨.bl _,H,I,rfl,q⟩
  ·cases o
 ·cases o
theorem op_ninD (hu : X.A.units + 64 < cLine) : OpR X (compareOp .NotIn) (rInD X.K true):=by
 intro pins s σ H x y v u Q I rx ry h
 obtain ⟨B,dx,dy,b,r1,r2,o,q⟩:=h
 unfold y4g at o
 split at o
 ·split at o
  ·rename_i ds h
   rw [aJ] at h
   cases o
   obtain ⟨as,ra⟩:=z0P I dx (z0w h.1).1 r1 rx
   obtain ⟨bs,rb⟩:=z0P I _ (z0w h.2).1 r2 ry
   have hc:=(z0w h.2).1
   unfold toP at rb hc
   unfold PyData.canLay0 at hc
   refine notIn_list_reads rb ra hc (z0w h.1).1 (by have:=(z0w h.1).2; omega) ?_
   rw [z4E]
   exact ⟨.bl _,H,I,rfl,q⟩
  ·cases o
 ·split at o
  ·rename_i ds h
   rw [aJ] at h
   cases o
   obtain ⟨as,ra⟩:=z0P I dx (z0w h.1).1 r1 rx
   obtain ⟨bs,rb⟩:=z0P I _ (z0w h.2).1 r2 ry
   have hc:=(z0w h.2).1
   unfold toP at rb hc
   unfold PyData.canLay0 at hc
   refine notIn_tuple_reads rb ra hc (z0w h.1).1 (by have:=(z0w h.1).2; omega) ?_
   rw [z4E]
   exact ⟨.bl _,H,I,rfl,q⟩
  ·cases o
 ·cases o
theorem o2_in {K : aa} : Op2 K (rInD K false) inD:=by
 intro H B dx dy d x y Q hB hx hy q k
 unfold inD at q
 cases e : y4g dx dy with
 | none=>rw [e] at q; cases q
 | some b=>
  rw [e] at q
  cases q
  exact ⟨B,dx,dy,b,hx,hy,e,k _ H (.refl H) rfl⟩
theorem o2_nin {K : aa} : Op2 K (rInD K true) y8a:=by
 intro H B dx dy d x y Q hB hx hy q k
 unfold y8a at q
 cases e : y4g dx dy with
 | none=>rw [e] at q; cases q
 | some b=>
  rw [e] at q
  cases q
  exact ⟨B,dx,dy,b,hx,hy,e,k _ H (.refl H) rfl⟩
noncomputable def OpA (K : aa) (r : List V->Hp->VK->Prop) (F : List D->Option D) : Prop:=∀ (H : Hp) (B : Addr->Prop) (ds : List D) (d : D) (vs : List V) (Q : VK),InB B H->Reps K H B ds vs->F ds=some d->(∀ v H',Same H H'->Rep K H' B d v->Q v H')->r vs H Q
noncomputable def OpL (K : aa) (r : List V->Hp->VK->Prop) (F : List D->Option (List D)) : Prop:=∀ (H : Hp) (B : Addr->Prop) (ds es : List D) (vs : List V) (Q : VK),InB B H->Reps K H B ds vs->F ds=some es →
 (∀ a xs H',Same H H'->H a=none->H' a=some (.lst xs)->Reps K H' B es xs->Q (.ref a) H')->r vs H Q
noncomputable def z2G (F : List D->Option (List D)) (fl : List DE) : DS->Option (List D):=fun δ=>(z0q fl δ).bind F
variable {x : Str} {bid T : String} {r : List V->Hp->VK->Prop} {e : Expr} {es : List Expr} {p pos : Pos} {fl : List DE}
theorem callA {F : List D->Option D} (ho : OpA X.K r F) (σ : St) (H : Hp) (Q : VK) (h : tD X.K (z0j F fl) σ H Q) : tCB r (tDs X.K (z0q fl)) σ H Q:=by
 obtain ⟨B,δ,d,hB,S,q,k⟩:=h
 obtain ⟨ds,e1,e2⟩:=z5p q
 exact ⟨B,δ,ds,hB,S,e1,fun vs H1 s1 r1=>ho H1 B ds d vs Q (hB.mono s1) r1 e2 fun v H' s' rv=>k v H' (s1.trans s') rv⟩
theorem callL {F : List D->Option (List D)} (ho : OpL X.K r F) (σ : St) (H : Hp) (Q : VK) (h : tF X.K (z2G F fl) σ H Q) : tCB r (tDs X.K (z0q fl)) σ H Q:=by
 obtain ⟨B,δ,d,hB,S,q,k⟩:=h
 unfold z2G at q
 cases e1 : z0q fl δ with
 | none=>rw [e1] at q; cases q
 | some ds=>
  rw [e1] at q
  exact ⟨B,δ,ds,hB,S,e1,fun vs H1 s1 r1=>ho H1 B ds d vs Q (hB.mono s1) r1 q fun a xs H' s' hn ha rv=>k a xs H' (s1.trans s') (s1.free hn) ha rv⟩
theorem z5D {F : List D->Option D} (hc : z5C X (.builtin bid) r) (hD : OpA X.K r F) (hg : Gl X x) (hm : X.mg x=none) (hv : bootBuiltins x=some (.builtin bid)) (ha : PAD X (e :: es) fl) (hn : x ≠ "__name__" := by decide) (hdb : (x == ("__debug__" : Str))=false:=by decide)
  (he : starEach (e :: es) X.env=(false,eval e X.env) :: starEach es X.env:=by rfl) (hpl : (backTo pos (starEach es X.env)).any (·.1)=false:=by rfl) : PD X (.Call (.Name x p) (e :: es) [] pos) (z0j F fl):=
 (z5P hc hg hm hv ha hn hdb he hpl).imp (callA hD)
theorem y6V {F : List D->Option (List D)} (hc : z5C X (.type T) r) (hD : OpL X.K r F) (hg : Gl X x) (hm : X.mg x=none) (hv : bootBuiltins x=some (.type T)) (ha : PAD X (e :: es) fl) (hn : x ≠ "__name__" := by decide) (hdb : (x == ("__debug__" : Str))=false:=by decide)
  (he : starEach (e :: es) X.env=(false,eval e X.env) :: starEach es X.env:=by rfl) (hpl : (backTo pos (starEach es X.env)).any (·.1)=false:=by rfl) : PF X (.Call (.Name x p) (e :: es) [] pos) (z2G F fl):=
 (y4O hc hg hm hv ha hn hdb he hpl).imp (callL hD)
theorem z4I {K : aa} {H : Hp} {B : Addr->Prop} {d : D} {vs : List V} (h : Reps K H B [d] vs) : ∃ v,vs=[v]∧Rep K H B d v:=by
 unfold Reps at h
 obtain ⟨x,r,rfl,h1,h2⟩:=h
 unfold Reps at h2
 subst h2
 exact ⟨x,rfl,h1⟩
theorem reps2 {K : aa} {H : Hp} {B : Addr->Prop} {d e : D} {vs : List V} (h : Reps K H B [d,e] vs) : ∃ v u,vs=[v,u]∧Rep K H B d v∧Rep K H B e u:=by
 unfold Reps at h
 obtain ⟨x,r,rfl,h1,h2⟩:=h
 obtain ⟨u,rfl,h3⟩:=z4I h2
 exact ⟨x,u,rfl,h1,h3⟩
noncomputable def z3z : List D->Option D
 | [.lst ds]=>some (.int ds.length)
 | [.tup ds]=>some (.int ds.length)
 | [.scr ns]=>some (.int ns.length)
 | _=>none
theorem oa_len {K : aa} : OpA K (fun xs H Q=>∃ x n,xs=[x]∧LenV K x H n∧Q (.int n) H) z3z:=by
 intro H B ds d vs Q hB hr q k
 unfold z3z at q
 split at q
 ·cases q
  obtain ⟨v,rfl,r⟩:=z4I hr
  unfold Rep at r
  obtain ⟨a,xs,rfl,_,h,rs⟩:=r
  refine ⟨.ref a,xs.length,rfl,.inl ⟨xs,SqL.of h,rfl⟩,k _ H (.refl H) ?_⟩
  show V.int _=V.int _
  rw [rs.length]
 ·cases q
  obtain ⟨v,rfl,r⟩:=z4I hr
  unfold Rep at r
  obtain ⟨a,xs,rfl,h,rs⟩:=r
  refine ⟨.ref a,xs.length,rfl,.inr ⟨xs,h,rfl⟩,k _ H (.refl H) ?_⟩
  show V.int _=V.int _
  rw [rs.length]
 ·cases q
  obtain ⟨v,rfl,r⟩:=z4I hr
  unfold Rep at r
  obtain ⟨a,rfl,h⟩:=r
  exact ⟨.ref a,_,rfl,.inl ⟨_,h.sq,(aq ..).symm⟩,k _ H (.refl H) rfl⟩
 ·cases q
theorem z0T {f : DE} (hg : Gl X "len") (hm : X.mg "len" = none) (h : PD X e f) (he : starEach [e] X.env=[(false,eval e X.env)]:=by rfl) : PD X (.Call (.Name "len" p) [e] [] pos) (z0j z3z [f]):=
 z5D y7V oa_len hg hm PySem.boot_len (z0a h z0c he) (by decide) (by decide) he rfl
noncomputable def z5B : List D->Option (List Bool)
 | []=>some []
 | .bl b :: r=>(z5B r).map (b :: ·)
 | _=>none
noncomputable def z3h : List D->Option (List Int)
 | []=>some []
 | .int i :: r=>(z3h r).map (i :: ·)
 | _=>none
theorem z5b {K : aa} {H : Hp} {B : Addr->Prop} : ∀ {ds : List D} {bs : List Bool} {xs : List V},z5B ds=some bs->Reps K H B ds xs->xs=bs.map V.bl
 | [],_,_,e,h=>by cases e; unfold Reps at h; exact h
 | .bl b :: r,bs,xs,e,h=>by
  unfold z5B at e
  cases q : z5B r with
  | none=>rw [q] at e; cases e
  | some cs=>
   rw [q] at e
   cases e
   unfold Reps at h
   obtain ⟨x,r',rfl,h1,h2⟩:=h
   rw [z5b q h2,show x=V.bl b from h1]
   rfl
 | .non :: _,_,_,e,_=>nomatch e
 | .int _ :: _,_,_,e,_=>nomatch e
 | .str _ :: _,_,_,e,_=>nomatch e
 | .lst _ :: _,_,_,e,_=>nomatch e
 | .tup _ :: _,_,_,e,_=>nomatch e
 | .dct _ _ :: _,_,_,e,_=>nomatch e
 | .exc _ :: _,_,_,e,_=>nomatch e
 | .scr _ :: _,_,_,e,_=>nomatch e
theorem z9t {K : aa} {H : Hp} {B : Addr->Prop} : ∀ {ds : List D} {bs : List Int} {xs : List V},z3h ds=some bs->Reps K H B ds xs->xs=bs.map V.int
 | [],_,_,e,h=>by cases e; unfold Reps at h; exact h
 | .int b :: r,bs,xs,e,h=>by
  unfold z3h at e
  cases q : z3h r with
  | none=>rw [q] at e; cases e
  | some cs=>
   rw [q] at e
   cases e
   unfold Reps at h
   obtain ⟨x,r',rfl,h1,h2⟩:=h
   rw [z9t q h2,show x=V.int b from h1]
   rfl
 | .non :: _,_,_,e,_=>nomatch e
 | .bl _ :: _,_,_,e,_=>nomatch e
 | .str _ :: _,_,_,e,_=>nomatch e
 | .lst _ :: _,_,_,e,_=>nomatch e
 | .tup _ :: _,_,_,e,_=>nomatch e
 | .dct _ _ :: _,_,_,e,_=>nomatch e
 | .exc _ :: _,_,_,e,_=>nomatch e
 | .scr _ :: _,_,_,e,_=>nomatch e
theorem z7t : ∀ {bs : List Bool} {us : List Value},Vals (bs.map V.bl) us->PyProof.Rows.LSm.BoolsAre us bs
 | [],_,.nil=>.nil
 | b :: bs,_,.cons r t=>by
  cases r
  exact .cons b (z7t t)
theorem y4q (hc : X.calm=true) : z5C X (.builtin "all") (fun xs H Q=>∃ (p : Addr) (bs : List Bool),xs=[.ref p]∧SqL X.K H p (bs.map V.bl)∧Q (.bl (bs.all (fun b=>b))) H):=by
 intro pins s σ H xs us Q I r h
 obtain ⟨p,bs,rfl,hq,q⟩:=h
 obtain ⟨u,rfl,ru⟩:=y2F r
 cases ru
 obtain ⟨its,rv,pl,hz⟩:=I.list hq
 have hl:=pl.isList
 have hb:=z7t rv
 have hlt : p < s.heap.objs.size:=by obtain ⟨_,e,_⟩:=hl; exact Heap.lt_size e
 refine call_all_walk (wpAny_pyIter_list hl ?_)
 refine ⟨s.heap.objs.size,[s.heap.objs.size,p],[s.heap.objs.size],its.toArray.size,_,_,fun i=>(bs[i]?).getD true,rfl,Walks.list (A:=X.A.in1) (I.ok.hd hc) _ p (aH hlt) its.toArray,
  ⟨⟨_,Heap.get?_push_size _ rfl,rfl,rfl⟩,hl.push _⟩,fun i v s' Q' E' hP hQ=>?_,fun h' tk hk=>?_⟩
 ·obtain ⟨b,e,rfl⟩:=hb.get i v (by simpa using hP)
  simp only [e,cF] at hQ
  exact wpAny_truthy_bool hQ
 ·have e : ((ag its.toArray.size).all fun i=>(bs[i]?).getD true)=bs.all (fun b=>b):=by
   rw [aE,hb.length]; exact LSm.range_all bs
  rw [e]
  exact ⟨.bl _,H,I.kept (LSm.kept_iter hk),rfl,q⟩
theorem y3A (hc : X.calm=true) : z5C X (.builtin "any") (fun xs H Q=>∃ (p : Addr) (bs : List Bool),xs=[.ref p]∧SqL X.K H p (bs.map V.bl)∧Q (.bl (bs.any (fun b=>b))) H):=by
 intro pins s σ H xs us Q I r h
 obtain ⟨p,bs,rfl,hq,q⟩:=h
 obtain ⟨u,rfl,ru⟩:=y2F r
 cases ru
 obtain ⟨its,rv,pl,hz⟩:=I.list hq
 have hl:=pl.isList
 have hb:=z7t rv
 have hlt : p < s.heap.objs.size:=by obtain ⟨_,e,_⟩:=hl; exact Heap.lt_size e
 refine call_any_walk (wpAny_pyIter_list hl ?_)
 refine ⟨s.heap.objs.size,[s.heap.objs.size,p],[s.heap.objs.size],its.toArray.size,_,_,fun i=>(bs[i]?).getD false,rfl,Walks.list (A:=X.A.in1) (I.ok.hd hc) _ p (aH hlt) its.toArray,
  ⟨⟨_,Heap.get?_push_size _ rfl,rfl,rfl⟩,hl.push _⟩,fun i v s' Q' E' hP hQ=>?_,fun h' tk hk=>?_⟩
 ·obtain ⟨b,e,rfl⟩:=hb.get i v (by simpa using hP)
  simp only [e,cF] at hQ
  exact wpAny_truthy_bool hQ
 ·have e : ((ag its.toArray.size).any fun i=>(bs[i]?).getD false)=bs.any (fun b=>b):=by
   rw [aE,hb.length]; exact LSm.range_any bs
  rw [e]
  exact ⟨.bl _,H,I.kept (LSm.kept_iter hk),rfl,q⟩
noncomputable def y7J : List D->Option D
 | [.lst ds]=>(z5B ds).map fun bs=>.bl (bs.all (fun b=>b))
 | _=>none
noncomputable def anyF : List D->Option D
 | [.lst ds]=>(z5B ds).map fun bs=>.bl (bs.any (fun b=>b))
 | _=>none
theorem oa_all {K : aa} : OpA K (fun xs H Q=>∃ (p : Addr) (bs : List Bool),xs=[.ref p]∧SqL K H p (bs.map V.bl)∧Q (.bl (bs.all (fun b=>b))) H) y7J:=by
 intro H B ds d vs Q hB hr q k
 unfold y7J at q
 split at q
 ·rename_i es
  cases e : z5B es with
  | none=>rw [e] at q; cases q
  | some bs=>
   rw [e] at q
   cases q
   obtain ⟨v,rfl,r⟩:=z4I hr
   unfold Rep at r
   obtain ⟨a,xs,rfl,_,h,rs⟩:=r
   rw [z5b e rs] at h
   exact ⟨a,bs,rfl,SqL.of h,k _ H (.refl H) rfl⟩
 ·cases q
theorem oa_any {K : aa} : OpA K (fun xs H Q=>∃ (p : Addr) (bs : List Bool),xs=[.ref p]∧SqL K H p (bs.map V.bl)∧Q (.bl (bs.any (fun b=>b))) H) anyF:=by
 intro H B ds d vs Q hB hr q k
 unfold anyF at q
 split at q
 ·rename_i es
  cases e : z5B es with
  | none=>rw [e] at q; cases q
  | some bs=>
   rw [e] at q
   cases q
   obtain ⟨v,rfl,r⟩:=z4I hr
   unfold Rep at r
   obtain ⟨a,xs,rfl,_,h,rs⟩:=r
   rw [z5b e rs] at h
   exact ⟨a,bs,rfl,SqL.of h,k _ H (.refl H) rfl⟩
 ·cases q
theorem y1t {f : DE} (hc : X.calm=true) (hg : Gl X "all") (hm : X.mg "all" = none) (h : PD X e f) (he : starEach [e] X.env=[(false,eval e X.env)]:=by rfl) : PD X (.Call (.Name "all" p) [e] [] pos) (z0j y7J [f]):=
 z5D (y4q hc) oa_all hg hm PyProof.Rows.Boot.«all» (z0a h z0c he) (by decide) (by decide) he rfl
theorem y8D {f : DE} (hc : X.calm=true) (hg : Gl X "any") (hm : X.mg "any" = none) (h : PD X e f) (he : starEach [e] X.env=[(false,eval e X.env)]:=by rfl) : PD X (.Call (.Name "any" p) [e] [] pos) (z0j anyF [f]):=
 z5D (y3A hc) oa_any hg hm PyProof.Rows.Boot.«any» (z0a h z0c he) (by decide) (by decide) he rfl
noncomputable def z7r : List D->Option (List D)
 | [.lst ds]=>some ds
 | [.tup ds]=>some ds
 | [.scr ns]=>some (ns.map .int)
 | _=>none
theorem ol_list {K : aa} : OpL K (fun xs H Q=>∃ p ys,xs=[.ref p]∧(SqL K H p ys∨SqT K H p ys)∧∀ l,H l=none->Q (.ref l) (upd H l (.lst ys))) z7r:=by
 intro H B ds es vs Q hB hr q k
 unfold z7r at q
 split at q
 ·cases q
  obtain ⟨v,rfl,r⟩:=z4I hr
  unfold Rep at r
  obtain ⟨a,xs,rfl,_,h,rs⟩:=r
  exact ⟨a,xs,rfl,.inl (SqL.of h),fun l hl=>k l xs _ (z0r hl) hl z0o (rs.mono (z0r hl))⟩
 ·cases q
  obtain ⟨v,rfl,r⟩:=z4I hr
  unfold Rep at r
  obtain ⟨a,xs,rfl,h,rs⟩:=r
  exact ⟨a,xs,rfl,.inr h,fun l hl=>k l xs _ (z0r hl) hl z0o (rs.mono (z0r hl))⟩
 ·cases q
  obtain ⟨v,rfl,r⟩:=z4I hr
  unfold Rep at r
  obtain ⟨a,rfl,h⟩:=r
  exact ⟨a,_,rfl,.inl h.sq,fun l hl=>k l _ _ (z0r hl) hl z0o (z1M _)⟩
 ·cases q
theorem z8H {f : DE} (hg : Gl X "list") (hm : X.mg "list" = none) (h : PD X e f) (he : starEach [e] X.env=[(false,eval e X.env)]:=by rfl) : PF X (.Call (.Name "list" p) [e] [] pos) (z2G z7r [f]):=
 y6V z9L ol_list hg hm PyProof.Rows.Boot.«list» (z0a h z0c he) (by decide) (by decide) he rfl
noncomputable def tupF : List D->Option D
 | [.lst ds]=>some (.tup ds)
 | [.tup ds]=>some (.tup ds)
 | _=>none
end
end L2
namespace L2
open PySem PySem.Spec PyProof.Rows
noncomputable def tyN : D->String
 | .non => "NoneType"
 | .bl _ => "bool"
 | .int _ => "int"
 | .str _ => "str"
 | .lst _ => "list"
 | .tup _ => "tuple"
 | .scr _ => "list"
 | .dct _ _ => "dict"
 | .exc _ => "object"
inductive IsT : String->Prop where
 | bool : IsT "bool" | int : IsT "int" | str : IsT "str" | list : IsT "list" | tuple : IsT "tuple" | dict : IsT "dict"
noncomputable def isF (T : String) (d : D) : Bool:=tyN d == T || (tyN d == "bool" && T == "int")
theorem kit_tt (K : aa) {T : String} (h : IsT T) (d : D) (hd : ∀ x,d≠.exc x) : df K (.type (tyN d)) (.type T)=some (isF T d):=by
 cases h <;> cases d <;> first | kernel_rfl | exact absurd rfl (hd _)
section
variable {prog : Program} {w : World} {A : Around} {E : Value->Shared->Prop} {K : aa} {x D : Addr} {ox : Obj} {s : Shared}
theorem y4B {Q : Option Value->Shared->Prop} (X : K.In s.heap) (I : dg s.heap x ox D none) (hga : bd K (.ref D) "__getattribute__" = some (some (.builtin "BaseException.__getattribute__"))) (hgh : bd K (.ref D) "__getattr__" = some none)
  (hf : c5 K D none "__class__" = some (.bind (.builtin "getset_descriptor.__get__") (.builtin "object.__class__"))) (hm : bW K D (.type "object")=some true) (hb : bW K D (.type "BaseException")=some true)
  (h : Q (some (.ref D)) { s with toks:=s.toks + 1 }) : wpAny (model prog w) A (getAttr? (.ref x) "__class__") Q E s:=by
 obtain ⟨hp,gs,dr,tk,os⟩:=s
 have T0:=I.type (M:=model prog w)
 have T1:=dL (M:=model prog w) X hga
 have T2:=dL (M:=model prog w) X hgh
 have T3:=PySem.W.looks_find (M:=model prog w) X I hf
 have T4:=PySem.W.looks_mroIn (M:=model prog w) X hb
 have hne : (onTheHeap (Value.ref D) && Value.builtin "BaseException.__getattribute__" == Value.builtin "object.__getattribute__")=false:=by
  have z : (Value.builtin "BaseException.__getattribute__" == Value.builtin "object.__getattribute__")=false:=by decide +kernel
  rw [z,dE]
 unfold getAttr? getAttrBy?
 refine wpAny_bind (wpAny_mkText ?_)
 refine wpAny_bind (wpAny_attempt ?_)
 unfold getAttrBy
 refine wpAny_holding (wpAny_bind (T0.at ?_))
 refine wpAny_bind (T1.at ?_)
 dsimp only
 rw [hne,if_neg ao]
 unfold getAttrByItsOwn hookBefore
 rw [if_pos (show onTheHeap (Value.ref D)=true from rfl)]
 refine wpAny_bind (T2.at ?_)
 refine wpAny_bind (wpAny_attempt (wpAny_holding ?_))
 unfold callGetattribute boundAndCalled
 rw [dD,if_neg ao,F.excAttr_ValueError.ga.bind]
 refine wpAny_bind (wpAny_pure ?_)
 refine wpAny_call (codeAny_call_builtin F.excAttr_ValueError.ga.plain F.entry_bexc_ga ?_)
 have k1 : builtinKind "BaseException.__getattribute__" = some .slot:=by decide +kernel
 have k2 : splitId "BaseException.__getattribute__" = some ("BaseException", "__getattribute__"):=by decide +kernel
 simp only [checkBuiltinCall,k1,k2]
 have ha:=F.args_bexc_ga (.ref x) (.str "__class__" tk)
 have TI : PySem.W.Looks (model prog w) hp (isInstance (.ref x) (.type "BaseException")) true:=T0.andThen T4
 show wpAny _ _ (isInstance (.ref x) (.type "BaseException") >>= _) _ _ _
 refine wpAny_bind (TI.at ?_)
 rw [if_neg (by decide)]
 unfold argsOk at ha
 refine wpAny_of_eq (a:=()) ha ?_
 unfold Builtin.«object.__getattribute__»
 refine wpAny_bind (wpAny_of_eq (a:=(Value.ref x,[Value.str "__class__" tk])) rfl ?_)
 dsimp only
 refine wpAny_bind (wpAny_of_eq (a:=("__class__" : Str)) rfl ?_)
 refine wpAny_bind (T0.at ?_)
 refine wpAny_bind (T3.at ?_)
 show wpAny _ _ (holding [Value.builtin "object.__class__"] (call (.builtin "getset_descriptor.__get__") [.builtin "object.__class__",.ref x,.ref D]) >>= ret) _ _ _
 refine wpAny_bind (wpAny_holding (wpAny_call (PySem.W.class_get X I hm ?_)))
 refine wpAny_pure ?_
 exact PySem.W.handed_on rfl (wpAny_pure h)
end
theorem xcls_of {K : aa} {C : Addr} (h : y4H K C=true) : bd K (.ref C) "__getattribute__" = some (some (.builtin "BaseException.__getattribute__"))∧bd K (.ref C) "__getattr__" = some none∧bW K C (.type "BaseException")=some true∧(dz K C).isSome=true ∧
  bd K (.ref C) "__class__" = some (some (.builtin "object.__class__"))∧cB K (.builtin "object.__class__") "__get__" = some (some (.builtin "getset_descriptor.__get__"))∧cZ K (.builtin "object.__class__")=some true∧bW K C (.type "object")=some true:=by
 unfold y4H at h
 simp only [aJ,beq_iff_eq] at h
 exact ⟨h.1.1.1.1.1.1.1.1,h.1.1.1.1.1.1.1.2,h.1.1.1.1.1.1.2,h.1.1.1.1.1.2,h.1.1.1.1.2,h.1.1.1.2,h.1.1.2,h.1.2⟩
theorem y5N {K : aa} {x C : Addr} {ox : Obj} (h : y4H K C=true) : PySem.W.KitX K (.ref x) (.ref C) (fun g=>dg g x ox C none):=by
 obtain ⟨g1,g2,g3,h2,h3,h4,h5,h6⟩:=xcls_of h
 obtain ⟨cd,hcd⟩:=cC.mp h2
 have hk : ∃ c d sl,K.lookup C=some ⟨c,d,.cls cd,sl⟩:=by
  unfold dz at hcd
  split at hcd
  ·cases hcd; exact ⟨_,_,_,by assumption⟩
  ·cases hcd
 obtain ⟨c0,d0,sl0,hk⟩:=hk
 have hf : c5 K C none "__class__" = some (.bind (.builtin "getset_descriptor.__get__") (.builtin "object.__class__")):=by
  unfold c5
  rw [hcd,ax,h3,ax]
  simp [h4,h5]
 refine ⟨fun _ _ _ I=>I.type,fun _ _ X _=>?_,fun g tp dd its n sl X ht=>?_,fun X I k=>?_⟩
 ·intro A' Q' E' s' kk q
  unfold isType loadHead
  exact wpAny_bind (wpAny_loadPart (kk _ _ (X _ _ hk)) (wpAny_pure q))
 ·cases hz : (Value.ref C == Value.ref tp) with
  | false=>rfl
  | true=>
   have e : C=tp:=Value.ref.inj (beq_iff_eq.mp hz)
   rw [← e] at ht
   have z:=(X _ _ hk).symm.trans ht
   cases z
 ·exact y4B X I g1 g2 hf h6 g3 k
theorem exc_at {X : Cx} {pins : List (Addr × Obj)} {σ : St} {H : Hp} {s : Shared} {a C : Addr} (I : Inv X pins σ H s) (h : H a=some (.ext (isX a C))) : ∃ o,dg s.heap a o C none:=by
 obtain ⟨⟨o,h1,h2,h3,h4⟩,_⟩:=(show ObjOk X.prog X.w H s.heap a (.ext (isX a C)) from I.hok a _ h)
 exact ⟨o,h1,h2,h4,by rw [h3]; trivial⟩
section
variable {X : Cx} {pins : List (Addr × Obj)} {σ : St} {H : Hp} {s : Shared} {B : Addr->Prop} {A : Around} {E : Value->Shared->Prop} {Q : Value->Shared->Prop}
theorem y2K {d : D} {v : V} {u : Value} {T : String} (I : Inv X pins σ H s) (r : Rep X.K H B d v) (rv : RelV v u) (hT : IsT T) (h : ∀ tk,Q (.bool (isF T d)) { s with toks:=tk }) : wpAny (model X.prog X.w) A (call (.builtin "isinstance") [u,.type T]) Q E s:=by
 by_cases hd : ∃ x,d = .exc x
 ·obtain ⟨x,rfl⟩:=hd
  unfold Rep at r
  obtain ⟨a,C,rfl,_,hq,_,hx⟩:=r
  cases rv
  obtain ⟨o,ie⟩:=exc_at I hq
  have e : df X.K (.ref C) (.type T)=some (isF T (.exc x)):=by
   have h6:=(aV.mp hx).2
   rw [aS] at h6
   have h7:=beq_iff_eq.mp (h6 T (by cases hT <;> decide))
   rw [h7]
   cases hT <;> rfl
  exact bE (y5N hx) I.kIn ie e (fun z=>nomatch z) h
 have hd : ∀ x,d≠.exc x:=fun x z=>hd ⟨x,z⟩
 have e:=kit_tt X.K hT d hd
 cases d with
 | exc x=>exact absurd rfl (hd x)
 | non=>cases r; cases rv; exact bE PySem.W.kitx_none I.kIn True.intro e (fun z=>nomatch z) h
 | bl y=>cases r; cases rv; exact bE PySem.W.kitx_bool I.kIn True.intro e (fun z=>nomatch z) h
 | int i=>cases r; obtain ⟨t,q⟩:=rv; cases q; exact bE PySem.W.kitx_int I.kIn True.intro e (fun z=>nomatch z) h
 | str y=>cases r; obtain ⟨t,q⟩:=rv; cases q; exact bE PySem.W.kitx_str I.kIn True.intro e (fun z=>nomatch z) h
 | lst ds=>
  unfold Rep at r
  obtain ⟨a,xs,rfl,_,hq,_⟩:=r
  cases rv
  obtain ⟨its,_,⟨o,n,e1,c,_⟩,_⟩:=I.list (SqL.of hq)
  exact bE ee I.kIn ⟨o,e1,c⟩ e (fun z=>nomatch z) h
 | tup ds=>
  unfold Rep at r
  obtain ⟨a,xs,rfl,hq,_⟩:=r
  cases rv
  obtain ⟨its,_,⟨o,e1,c,_⟩,_⟩:=I.tuple hq
  exact bE PySem.W.kitx_tuple I.kIn ⟨o,e1,c⟩ e (fun z=>nomatch z) h
 | scr ns=>
  unfold Rep at r
  obtain ⟨a,rfl,hq⟩:=r
  cases rv
  obtain ⟨its,_,⟨o,n,e1,c,_⟩,_⟩:=I.list hq.sq
  exact bE ee I.kIn ⟨o,e1,c⟩ e (fun z=>nomatch z) h
 | dct ks ds=>
  unfold Rep at r
  obtain ⟨a,kvs,rfl,_,ea,_⟩:=r
  cases rv
  obtain ⟨_,_,vs,_,p⟩:=(show ObjOk X.prog X.w H s.heap a (.dK kvs) from I.hok a _ ea)
  obtain ⟨o,es,ep,h1,h2,_⟩:=p
  exact bE PySem.W.kitx_dict I.kIn ⟨o,h1,h2.1⟩ e (fun z=>nomatch z) h
end
section
variable {X : Cx} {e : Expr} {p p2 pos : Pos}
noncomputable def dIs (T : String) (f : DE) : DE:=fun δ=>(f δ).map fun d=>.bl (isF T d)
theorem y7y {T : String} (hT : IsT T) : z5C X (.builtin "isinstance") (fun xs H Q=>∃ B d v,xs=[v,.ty T]∧Rep X.K H B d v∧Q (.bl (isF T d)) H):=by
 intro pins s σ H xs us Q I r h
 obtain ⟨B,d,v,rfl,rv,q⟩:=h
 obtain ⟨u,w',rfl,r1,r2⟩:=vals2 r
 cases r2
 exact y2K I rv r1 hT fun tk=>⟨.bl _,H,I.tok tk,rfl,q⟩
theorem pd_is {f : DE} {x : Str} {T : String} (hT : IsT T) (hb : bootBuiltins x=some (.type T)) (hx : Gl X x) (hmx : X.mg x=none) (hnx : x ≠ "__name__") (hdx : (x == ("__debug__" : Str))=false) (hg : Gl X "isinstance") (hm : X.mg "isinstance" = none) (h : PD X e f)
  (he : starEach [e,.Name x p2] X.env=[(false,eval e X.env),(false,eval (.Name x p2) X.env)]:=by rfl) (he2 : starEach [.Name x p2] X.env=[(false,eval (.Name x p2) X.env)]:=by rfl) : PD X (.Call (.Name "isinstance" p) [e,.Name x p2] [] pos) (dIs T f):=
 (z5P (y7y hT) hg hm boot_isinstance (z1x h (z1x (pe_bltn (v:=.ty T) hx hmx hb rfl hnx hdx) pa_nil he2) (by rw [he,he2])) (by decide) (by decide) (by rw [he,he2]) (by rw [he2]; rfl)).imp fun σ H Q z_=>by
  obtain ⟨B,δ,d,hB,S,q,k⟩:=z_
  unfold dIs at q
  cases e1 : f δ with
  | none=>rw [e1] at q; cases q
  | some d'=>
   rw [e1] at q
   cases q
   exact ⟨B,δ,d',hB,S,e1,fun v H1 s1 r1=>⟨B,d',v,rfl,r1,k _ H1 s1 rfl⟩⟩
theorem y4Y {f : DE} (hx : Gl X "bool") (hmx : X.mg "bool" = none) (hg : Gl X "isinstance") (hm : X.mg "isinstance" = none) (h : PD X e f) (he : starEach [e,.Name "bool" p2] X.env=[(false,eval e X.env),(false,eval (.Name "bool" p2) X.env)]:=by rfl) :
  PD X (.Call (.Name "isinstance" p) [e,.Name "bool" p2] [] pos) (dIs "bool" f):=pd_is .bool PyProof.Rows.Boot.«bool» hx hmx (by decide) (by decide) hg hm h he rfl
theorem y7G {f : DE} (hx : Gl X "int") (hmx : X.mg "int" = none) (hg : Gl X "isinstance") (hm : X.mg "isinstance" = none) (h : PD X e f) (he : starEach [e,.Name "int" p2] X.env=[(false,eval e X.env),(false,eval (.Name "int" p2) X.env)]:=by rfl) :
  PD X (.Call (.Name "isinstance" p) [e,.Name "int" p2] [] pos) (dIs "int" f):=pd_is .int PyProof.Rows.Boot.«int» hx hmx (by decide) (by decide) hg hm h he rfl
end
noncomputable def y0R (i : Nat) : Option SD->Option SD
 | some (.bo r d)=>if r=i then none else some (.bo r d)
 | o=>o
noncomputable def z0y (i : Nat) (δ : SS) : SS:=δ.map (y0R i)
theorem z2r {i j : Nat} {δ : SS} {x : SD} (h : (z0y i δ)[j]? = some (some x)) : δ[j]? = some (some x)∧∀ d,x≠.bo i d:=by
 unfold z0y at h
 rw [aN] at h
 cases e : δ[j]? with
 | none=>rw [e] at h; cases h
 | some o=>
  rw [e] at h
  have h' : y0R i o=some x:=Option.some.inj h
  unfold y0R at h'
  split at h'
  ·rename_i r d
   split at h'
   ·cases h'
   ·rename_i hr
    cases h'
    exact ⟨rfl,fun d' z=>by cases z; exact hr rfl⟩
  ·rename_i hn
   subst h'
   exact ⟨rfl,fun d z=>hn i d (by rw [z])⟩
section
variable {K : aa} {H0 H : Hp} {B0 : Addr->Prop} {σ : St} {δ : SS} {R : Nat->List Addr}
theorem RS.rewrite {Hold : Hp} {i : Nat} {d d' : D} {a : Addr} {o : HO} {v : V} {A' : List Addr} (h : RS K H0 B0 Hold σ δ R) (e : Same Hold H) (hi : δ[i]? = some (some (.ow d))) (hv : σ[i]? = some (some v)) (ha : a∈R i) (t : Tree K (upd H a o) d' v A') (nd : A'.Nodup) (sub : ∀ b∈A',b∈R i∨Hold b=none) :
  RS K H0 B0 (upd H a o) σ ((z0y i δ).set i (some (.ow d'))) (z5t R i A')∧Stp R Hold (z5t R i A') (upd H a o):=by
 have hm:=h.mono e
 obtain ⟨oa,ea,ma⟩:=hm.held i a ha
 have mH : Mut (H a):=by rw [ea]; exact ma
 have mem : ∀ r b,b∈z5t R i A' r->b∈R r∨(r=i∧Hold b=none):=fun r b z=>by
  by_cases hr : r=i
  ·subst hr; rw [z0C] at z; exact (sub b z).imp id fun q=>⟨rfl,q⟩
  ·rw [z0Y hr] at z; exact .inl z
 have kt : KeepI K H (upd H a o):=(Keep.upd (K:=K) (B:=fun x=>x=a) rfl mH).i
 have nh : ∀ r b,b∈R r->Hold b=none->False:=fun r b z q=>by
  obtain ⟨u,q',_⟩:=h.held r b z
  rw [q] at q'; cases q'
 refine ⟨⟨fun b u q=>?_,h.inB,by simp [z0y,h.len],fun r b z=>?_,fun r b z=>?_,fun r s b z z'=>?_,fun j d2 z=>?_,fun j r2 d2 z=>?_,fun j d2 z=>?_⟩,⟨fun b u q n=>?_,fun r b z=>?_,fun b z=>?_⟩⟩
 ·have ne : b≠a:=fun z=>by subst z; rw [h.new i b ha] at q; cases q
  rw [z0t ne]; exact hm.keep b u q
 ·rcases mem r b z with z | ⟨_,z⟩
  ·exact h.new r b z
  ·exact h.keep.free z
 ·by_cases hr : r=i
  ·subst hr; rw [z0C] at z; exact t.held d' b z
  ·rw [z0Y hr] at z
   have ne : b≠a:=fun q=>hr (h.disj r i b z (q ▸ ha))
   rw [z0t ne]; exact hm.held r b z
 ·rcases mem r b z with z | ⟨z1,z2⟩ <;> rcases mem s b z' with z' | ⟨z1',z2'⟩
  ·exact h.disj r s b z z'
  ·exact (nh r b z z2').elim
  ·exact (nh s b z' z2).elim
  ·rw [z1,z1']
 ·rcases z1V z with ⟨rfl,q,_⟩ | ⟨hj,q⟩
  ·cases q
  ·obtain ⟨q1,_⟩:=z2r q
   obtain ⟨w,e1,r⟩:=h.sh j d2 q1
   have r2:=(Rep.wide (C:=fun b=>Hold b=none) (fun _ z=>z) d2 r).mono e
   refine ⟨w,e1,Rep.anti ?_ d2 (Rep.keep (.upd (.inl (.inr ⟨i,ha⟩)) mH) d2 r2)⟩
   rintro b (z | ⟨r,z⟩)
   ·exact .inl (.inl z)
   ·rcases mem r b z with z | ⟨_,z⟩
    ·exact .inl (.inr ⟨r,z⟩)
    ·exact .inr z
 ·rcases z1V z with ⟨rfl,q,_⟩ | ⟨hj,q⟩
  ·cases q
  ·obtain ⟨q1,q2⟩:=z2r q
   have hr : i≠r2:=fun e=>q2 d2 (by rw [e])
   obtain ⟨w,e1,r⟩:=h.bo j r2 d2 q1
   have r3:=(Rep.wide (C:=fun b=>Hold b=none) (fun _ z=>z) d2 r).mono e
   refine ⟨w,e1,Rep.anti ?_ d2 (Rep.keep (.upd (.inl (.inr ⟨i,hr,ha⟩)) mH) d2 r3)⟩
   rintro b (z | ⟨s,hs,z⟩)
   ·exact .inl (.inl z)
   ·rcases mem s b z with z | ⟨_,z⟩
    ·exact .inl (.inr ⟨s,hs,z⟩)
    ·exact .inr z
 ·rcases z1V z with ⟨rfl,q,_⟩ | ⟨hj,q⟩
  ·cases q
   rw [z0C]
   exact ⟨v,hv,t,nd⟩
  ·obtain ⟨q1,_⟩:=z2r q
   obtain ⟨w,e1,t',nd'⟩:=hm.ow j d2 q1
   rw [z0Y hj]
   refine ⟨w,e1,Tree.keep kt d2 t' fun b hb u q=>?_,nd'⟩
   have ne : b≠a:=fun z=>by subst z; exact hj (h.disj j i b hb ha)
   rw [z0t ne]; exact q
 ·have ne : b≠a:=fun z=>n i (z ▸ ha)
  rw [z0t ne]; exact e b u q
 ·rcases mem r b z with z | ⟨_,z⟩
  ·exact .inl ⟨r,z⟩
  ·exact .inr z
 ·by_cases hb : b=a
  ·subst hb; rw [z0o] at z; cases z
  ·rw [z0t hb] at z; exact e.free z
mutual
theorem Tree.flat : ∀ (d : D) {v : V} {A : List Addr},d.imm=true->Tree K H d v A->A=[]
 | .non,_,_,_,h=>h.2
 | .bl _,_,_,_,h=>h.2
 | .int _,_,_,_,h=>h.2
 | .str _,_,_,_,h=>h.2
 | .lst _,_,_,i,_=>by unfold D.imm at i; cases i
 | .dct _ _,_,_,i,_=>by unfold D.imm at i; cases i
 | .exc _,_,_,i,_=>by unfold D.imm at i; cases i
 | .tup ds,_,_,i,h=>by
  unfold D.imm at i
  unfold Tree at h
  obtain ⟨a,xs,_,_,r⟩:=h
  exact Trees.flat ds i r
 | .scr _,_,_,_,h=>h.2
theorem Trees.flat : ∀ (ds : List D) {xs : List V} {A : List Addr},z2l ds=true->Trees K H ds xs A->A=[]
 | [],_,_,_,h=>h.2
 | d :: ds,_,_,i,h=>by
  unfold z2l at i
  rw [aJ] at i
  unfold Trees at h
  obtain ⟨x,r,C,C',rfl,h1,h2,rfl⟩:=h
  rw [Trees.flat ds i.2 h2,aL]
  exact Tree.flat d i.1 h1
end
theorem Trees.append : ∀ {ds es : List D} {xs ys : List V} {A C : List Addr},Trees K H ds xs A->Trees K H es ys C->Trees K H (ds ++ es) (xs ++ ys) (A ++ C)
 | [],_,_,_,_,_,h,h'=>by obtain ⟨rfl,rfl⟩:=h; exact h'
 | d :: ds,es,_,ys,_,C,h,h'=>by
  unfold Trees at h
  obtain ⟨y,r,A1,A2,rfl,h1,h2,rfl⟩:=h
  exact (show Trees K H (d :: (ds ++ es)) (y :: (r ++ ys)) (A1 ++ A2 ++ C) by unfold Trees; exact ⟨y,_,A1,A2 ++ C,rfl,h1,Trees.append h2 h',aZ _ _ _⟩)
theorem Trees.split : ∀ {ds : List D} {xs : List V} {A : List Addr} (k : Nat),Trees K H ds xs A->∃ A1 A2,A=A1 ++ A2∧Trees K H (ds.take k) (xs.take k) A1∧Trees K H (ds.drop k) (xs.drop k) A2
 | ds,xs,A,0,h=>⟨[],A,rfl,by rw [cO,cO]; exact ⟨rfl,rfl⟩,h⟩
 | [],_,_,k + 1,h=>by
  obtain ⟨rfl,rfl⟩:=h
  exact ⟨[],[],rfl,⟨rfl,rfl⟩,⟨rfl,rfl⟩⟩
 | d :: ds,_,_,k + 1,h=>by
  unfold Trees at h
  obtain ⟨y,r,A1,A2,rfl,h1,h2,rfl⟩:=h
  obtain ⟨C1,C2,rfl,h3,h4⟩:=Trees.split k h2
  refine ⟨A1 ++ C1,C2,(aZ _ _ _).symm,?_,h4⟩
  rw [cv,cv]
  unfold Trees
  exact ⟨y,_,A1,C1,rfl,h1,h3,rfl⟩
theorem Trees.one {d : D} {x : V} {A : List Addr} (h : Tree K H d x A) : Trees K H [d] [x] A:=by
 unfold Trees
 exact ⟨x,[],A,[],rfl,h,⟨rfl,rfl⟩,(aL _).symm⟩
theorem Trees.length : ∀ {ds : List D} {xs : List V} {A : List Addr},Trees K H ds xs A->ds.length=xs.length
 | [],_,_,h=>by obtain ⟨rfl,_⟩:=h; rfl
 | d :: ds,_,_,h=>by
  unfold Trees at h
  obtain ⟨x,r,_,_,rfl,_,h2,_⟩:=h
  simp [Trees.length h2]
theorem RS.top {i : Nat} {ds : List D} (h : RS K H0 B0 H σ δ R) (hi : δ[i]? = some (some (.ow (.lst ds)))) : ∃ a xs A,σ[i]? = some (some (.ref a))∧H a=some (.lst xs)∧Trees K H ds xs A∧R i=a :: A∧(a :: A).Nodup:=by
 obtain ⟨v,e,t,nd⟩:=h.ow i _ hi
 unfold Tree at t
 obtain ⟨a,xs,A,rfl,ha,ts,e2⟩:=t
 rw [e2] at nd
 exact ⟨a,xs,A,e,ha,ts,e2,nd⟩
theorem RS.put0 {Hold : Hp} {i : Nat} {ds ds' : List D} {a : Addr} {xs' : List V} {A A' : List Addr} (h : RS K H0 B0 Hold σ δ R) (e : Same Hold H) (hi : δ[i]? = some (some (.ow (.lst ds)))) (hv : σ[i]? = some (some (.ref a))) (hR : R i=a :: A) (nd : (a :: A).Nodup)
  (t : Trees K H ds' xs' A') (nd' : A'.Nodup) (sub : ∀ b∈A',b∈A∨Hold b=none) : RS K H0 B0 (upd H a (.lst xs')) σ ((z0y i δ).set i (some (.ow (.lst ds')))) (z5t R i (a :: A'))∧Stp R Hold (z5t R i (a :: A')) (upd H a (.lst xs')):=by
 have ha : a∈R i:=by rw [hR]; exact ah
 obtain ⟨oa,ea,ma⟩:=h.held i a ha
 have nA : ∀ b∈A',b≠a:=fun b hb z=>by
  rcases sub b hb with q | q
  ·exact (aC.mp nd).1 (z ▸ q)
  ·rw [z,ea] at q; cases q
 have mH : Mut (H a):=by rw [e a oa ea]; exact ma
 refine h.rewrite e hi hv ha ?_ (aC.mpr ⟨fun z=>nA a z rfl,nd'⟩) fun b hb=>?_
 ·unfold Tree
  refine ⟨a,xs',A',rfl,z0o,Trees.keep (Keep.upd (K:=K) (B:=fun x=>x=a) rfl mH).i ds' t fun b hb o q=>?_,rfl⟩
  rw [z0t (nA b hb)]; exact q
 ·rw [hR]
  rcases ai.mp hb with z | z
  ·rw [z]; exact .inl ah
  ·exact (sub b z).imp (ak _) id
theorem Trees.set1 {es : List D} : ∀ {ds : List D} {xs : List V} {A : List Addr} (k : Nat),Trees K H ds xs A->A.Nodup->ds[k]? = some (.lst es)->z2l es=true →
  ∃ b ys,xs[k]? = some (.ref b)∧H b=some (.lst ys)∧b∈A∧Trees K H es ys []∧∀ es' ys',Trees K H es' ys' []->Trees K (upd H b (.lst ys')) (ds.set k (.lst es')) xs A
 | [],_,_,_,_,_,e,_=>by simp at e
 | d :: ds,_,_,0,h,nd,e,hi=>by
  simp at e
  subst e
  unfold Trees at h
  obtain ⟨x,r,A1,A2,rfl,h1,h2,rfl⟩:=h
  unfold Tree at h1
  obtain ⟨b,ys,C,rfl,hb,tb,rfl⟩:=h1
  have eC:=Trees.flat es hi tb
  subst eC
  have mH : Mut (H b):=by rw [hb]; exact trivial
  have kt : ∀ o,KeepI K H (upd H b o):=fun o=>(Keep.upd (K:=K) (B:=fun x=>x=b) (o:=o) rfl mH).i
  refine ⟨b,ys,rfl,hb,by simp,tb,fun es' ys' t'=>?_⟩
  rw [cW]
  unfold Trees
  refine ⟨.ref b,r,[b],A2,rfl,?_,Trees.keep (kt _) ds h2 fun c hc o q=>?_,rfl⟩
  ·unfold Tree
   exact ⟨b,ys',[],rfl,z0o,Trees.keep (kt _) es' t' (fun c hc=>nomatch hc),rfl⟩
  ·have ne : c≠b:=fun z=>(aC.mp nd).1 (by rw [← z]; exact hc)
   rw [z0t ne]; exact q
 | d :: ds,_,_,k + 1,h,nd,e,hi=>by
  unfold Trees at h
  obtain ⟨x,r,A1,A2,rfl,h1,h2,rfl⟩:=h
  have ndA:=ba.mp nd
  obtain ⟨b,ys,e1,hb,hbA,tb,up⟩:=Trees.set1 k h2 ndA.2.1 (by simpa using e) hi
  refine ⟨b,ys,by simpa using e1,hb,aW _ hbA,tb,fun es' ys' t'=>?_⟩
  have mH : Mut (H b):=by rw [hb]; exact trivial
  have kt : KeepI K H (upd H b (.lst ys')):=(Keep.upd (K:=K) (B:=fun x=>x=b) rfl mH).i
  rw [cX]
  unfold Trees
  refine ⟨x,r,A1,A2,rfl,Tree.keep kt d h1 fun c hc o q=>?_,up es' ys' t',rfl⟩
  have ne : c≠b:=fun z=>ndA.2.2 c hc b hbA z
  rw [z0t ne]; exact q
theorem RS.put1 {Hold : Hp} {i k : Nat} {ds es : List D} (h : RS K H0 B0 Hold σ δ R) (e : Same Hold H) (hi : δ[i]? = some (some (.ow (.lst ds)))) (hk : ds[k]? = some (.lst es)) (hm : z2l es=true) :
  ∃ a xs b ys,σ[i]? = some (some (.ref a))∧Hold a=some (.lst xs)∧xs[k]? = some (.ref b)∧Hold b=some (.lst ys)∧ds.length=xs.length∧Trees K H es ys []∧∀ es' ys',Trees K H es' ys' [] →
   RS K H0 B0 (upd H b (.lst ys')) σ ((z0y i δ).set i (some (.ow (.lst (ds.set k (.lst es')))))) (z5t R i (R i))∧Stp R Hold (z5t R i (R i)) (upd H b (.lst ys')):=by
 obtain ⟨a,xs,A,ev,ha,ts,eR,nd⟩:=h.top hi
 obtain ⟨b,ys,e1,hb,hbA,tb,_⟩:=Trees.set1 k ts (aC.mp nd).2 hk hm
 obtain ⟨b',ys',e1',hb',_,tb',up⟩:=Trees.set1 k (ts.mono e) (aC.mp nd).2 hk hm
 rw [e1] at e1'
 cases e1'
 refine ⟨a,xs,b,ys,ev,ha,e1,hb,ts.length,tb.mono e,fun es' zs t'=>?_⟩
 have hba : b∈R i:=by rw [eR]; exact ak _ hbA
 have nba : a≠b:=fun z=>(aC.mp nd).1 (z ▸ hbA)
 refine h.rewrite e hi ev hba ?_ (by rw [eR]; exact nd) fun c hc=>.inl hc
 rw [eR]
 unfold Tree
 exact ⟨a,xs,A,rfl,by rw [z0t nba]; exact e _ _ ha,up es' zs t',rfl⟩
end
end L2
namespace L2
open PySem PySem.Spec PyProof.Rows
noncomputable instance {i j : Int} : Decidable (CDiv i j):=by unfold CDiv; infer_instance
noncomputable instance {i j : Int} : Decidable (CPow i j):=by unfold CPow; infer_instance
noncomputable instance {i j : Int} : Decidable (CMul i j):=by unfold CMul; infer_instance
noncomputable def LM (K : aa) (r : V->List V->Hp->VK->Prop) (F : List D->List D->Option (List D)) : Prop:=
 ∀ (H : Hp) (a : Addr) (xs : List V) (ds args : List D) (vs : List V) (ds' : List D) (Q : VK),H a=some (.lst xs)->ds.length=xs.length->Reps K H noB args vs->F ds args=some ds' →
  (∀ (w : V) (xs' : List V),(∀ (H2 : Hp) (A C : List Addr),Trees K H2 ds xs A->Trees K H2 args vs C->∃ A',Trees K H2 ds' xs' A'∧((A ++ C).Nodup->A'.Nodup)∧∀ b∈A',b∈A∨b∈C)->Q w (upd H a (.lst xs')))->r (.ref a) vs H Q
noncomputable def z7P : List D->List D->Option (List D):=fun ds args=>match args with
 | [d]=>if ds.length < sizeLine then some (ds ++ [d]) else none
 | _=>none
theorem z5Y {K : aa} : LM K z8u z7P:=by
 intro H a xs ds args vs ds' Q ha hl hr q k
 unfold z7P at q
 split at q
 ·rename_i d
  split at q
  ·rename_i hz
   cases q
   obtain ⟨y,rfl,ry⟩:=z4I hr
   refine ⟨a,xs,y,rfl,rfl,ha,by rw [← hl]; exact hz,k _ _ fun H2 A C t tc=>⟨A ++ C,t.append tc,fun z=>z,fun b hb=>aF.mp hb⟩⟩
  ·cases q
 ·cases q
noncomputable def y2P (n : Nat) (i : Int) : Nat:=if i < 0 then (i + (n : Int)).toNat else min i.toNat n
noncomputable def y3K : V->List V->Hp->VK->Prop:=fun x vs H Q=>∃ l xs i y,x = .ref l∧vs=[.int i,y]∧H l=some (.lst xs)∧xs.length < sizeLine∧-(2 ^ 63)≤i∧i < 2 ^ 63∧Q .non (upd H l (.lst (xs.take (y2P xs.length i) ++ y :: xs.drop (y2P xs.length i))))
theorem ins_arr (its : List Value) (k : Nat) (y : Value) : (its.toArray.extract 0 k).push y ++ its.toArray.extract k=(its.take k ++ y :: its.drop k).toArray:=by
 apply Array.ext'
 simp
 rw [dQ (by simp)]
theorem y2V {X : Cx} : MtM X "list.insert" y3K:=by
 intro pins s σ H x vs v us Q I rx rv h
 obtain ⟨l,xs,i,y,rfl,rfl,hH,hz,h1,h2,q⟩:=h
 cases rx
 obtain ⟨u,w',rfl,⟨t,rfl⟩,ry⟩:=rv.two
 obtain ⟨z,its,n,r,hl,e⟩:=I.lstM hH
 have hfit : Builtin.List.listFitsIndex i=true:=fitsIndex_both h1 h2
 refine call_meets F.slot_list_insert ⟨_,e,rfl⟩ F.entry_list_insert (F.args_list_insert_3 _ _ _)
  (AutoSeq1.list_insert_list_int_val_1 l its.toArray n i t w' (by rw [hfit]; decide) (by rw [aE]; omega)) ⟨e,?_⟩
 refine ⟨.non,_,I.lset (its':=its.take (y2P its.length i) ++ w' :: its.drop (y2P its.length i)) (ys:=xs.take (y2P xs.length i) ++ y :: xs.drop (y2P xs.length i)) hH e ?_ ?_ ?_,rfl,q⟩
 ·show (its.toArray.extract 0 (if i < 0 then (i + (its.toArray.size : Int)).toNat else min i.toNat its.toArray.size)).push w' ++ its.toArray.extract (if i < 0 then (i + (its.toArray.size : Int)).toNat else min i.toNat its.toArray.size)=_
  rw [ins_arr,aE]
  rfl
 ·rw [← hl]
  exact (r.take _).append (.cons ry (r.drop _))
 ·have : y2P xs.length i≤xs.length∨¬ y2P xs.length i≤xs.length:=Decidable.em _
  simp only [aK,cH,a8,dc]
  omega
noncomputable def insF : List D->List D->Option (List D):=fun ds args=>match args with
 | [.int i,d]=>if ds.length < sizeLine∧-(2 ^ 63)≤i∧i < 2 ^ 63 then some (ds.take (y2P ds.length i) ++ d :: ds.drop (y2P ds.length i)) else none
 | _=>none
theorem y4l {A1 A2 C : List Addr} (h : (A1 ++ A2 ++ C).Nodup) : (A1 ++ (C ++ A2)).Nodup:=by
 have p : (A1 ++ A2 ++ C).Perm (A1 ++ (C ++ A2)):=by
  rw [aZ]
  exact List.Perm.append_left _ List.perm_append_comm
 exact p.nodup_iff.mp h
theorem y3X {K : aa} : LM K y3K insF:=by
 intro H a xs ds args vs ds' Q ha hl hr q k
 unfold insF at q
 split at q
 ·rename_i i d
  split at q
  ·rename_i hz
   cases q
   obtain ⟨v,y,rfl,rv,ry⟩:=reps2 hr
   cases (show v=V.int i from rv)
   refine ⟨a,xs,i,y,rfl,rfl,ha,by rw [← hl]; exact hz.1,hz.2.1,hz.2.2,k _ _ fun H2 A C t tc=>?_⟩
   rw [← hl]
   obtain ⟨A1,A2,rfl,t1,t2⟩:=t.split (y2P ds.length i)
   unfold Trees at tc
   obtain ⟨x1,r1,C1,C2,e1,h1,h2,rfl⟩:=tc
   cases e1
   obtain ⟨_,eC1⟩:=(show V.int i=V.int i∧C1=[] from h1)
   subst eC1
   unfold Trees at h2
   obtain ⟨x2,r2,C3,C4,e2,h3,h4,rfl⟩:=h2
   cases e2
   obtain ⟨_,rfl⟩:=h4
   refine ⟨A1 ++ (C3 ++ A2),t1.append ?_,fun z=>?_,fun b hb=>?_⟩
   ·unfold Trees
    exact ⟨_,_,C3,A2,rfl,h3,t2,rfl⟩
   ·simp only [b6,aL] at z
    exact y4l z
   ·simp only [b6,aL,aF] at hb ⊢
    rcases hb with z | z | z
    ·exact .inl (.inl z)
    ·exact .inr z
    ·exact .inl (.inr z)
  ·cases q
 ·cases q
theorem Trees.erase {K : aa} {H : Hp} : ∀ {ds : List D} {xs : List V} {A : List Addr} (k : Nat),Trees K H ds xs A->∃ A',Trees K H (ds.eraseIdx k) (xs.eraseIdx k) A'∧A'.Sublist A
 | [],_,_,_,h=>by
  obtain ⟨rfl,rfl⟩:=h
  exact ⟨[],⟨rfl,rfl⟩,List.Sublist.refl _⟩
 | d :: ds,_,_,0,h=>by
  unfold Trees at h
  obtain ⟨x,r,A1,A2,rfl,h1,h2,rfl⟩:=h
  exact ⟨A2,h2,dH _ _⟩
 | d :: ds,_,_,k + 1,h=>by
  unfold Trees at h
  obtain ⟨x,r,A1,A2,rfl,h1,h2,rfl⟩:=h
  obtain ⟨A',t,sb⟩:=Trees.erase k h2
  refine ⟨A1 ++ A',?_,List.Sublist.append_left sb _⟩
  rw [dP,dP]
  unfold Trees
  exact ⟨x,_,A1,A',rfl,h1,t,rfl⟩
section
variable {X : Cx} {H0 : Hp} {B0 : Addr->Prop} {fr : Bool} {RX : XR} {e e2 : Expr} {es : List Expr} {pos ap cp : Pos} {x name : Str} {px p2 : Pos} {bid : String} {r : V->List V->Hp->VK->Prop} {F : List D->List D->Option (List D)} {fl : List DE}
noncomputable def m0 (i : Nat) (F : List D->List D->Option (List D)) (fl : List DE) : SS->Option Out:=fun δ=>(z0q fl (z0u δ)).bind fun args=>if z2l args=true then (match δ[i]? with
 | some (some (.ow (.lst ds)))=>(F ds args).map fun ds'=>.nx ((z0y i δ).set i (some (.ow (.lst ds'))))
 | _=>none) else none
theorem m0_core {i : Nat} {to : TE} (hL : LM X.K r F) (hto : to=z7x i) (D : Ends) (σ : St) (H : Hp) (h : tS X.K H0 B0 fr RX (m0 i F fl) D σ H) : tDrop (tBM X.K "list" r to (tDs X.K (z0q fl))) D σ H:=by
 subst hto
 obtain ⟨δ,R,o,rs,q,k⟩:=h
 unfold m0 at q
 cases e1 : z0q fl (z0u δ) with
 | none=>rw [e1] at q; cases q
 | some args=>
  rw [e1] at q
  have q : (if z2l args=true then (match δ[i]? with | some (some (.ow (.lst ds)))=>(F ds args).map fun ds'=>Out.nx ((z0y i δ).set i (some (.ow (.lst ds')))) | _=>none) else none)=some o:=q
  split at q
  case isFalse=>cases q
  case isTrue hi=>
  split at q
  case h_2=>cases q
  case h_1 ds ei=>
  cases e2 : F ds args with
  | none=>rw [e2] at q; cases q
  | some ds'=>
   rw [e2] at q
   cases q
   obtain ⟨a,xs,A,ev,ha,ts,eR,nd⟩:=rs.top ei
   refine ⟨.ref a,ev,.inl ⟨rfl,xs,SqL.of ha⟩,noB,z0u δ,args,.no,rs.all,e1,fun vs H2 s2 r2=>?_⟩
   refine hL H2 a xs ds args vs ds' _ (s2 _ _ ha) ts.length r2 e2 fun w xs' up=>?_
   obtain ⟨A',t',n',sub⟩:=up H2 A [] (ts.mono s2) (r2.immTree args hi)
   have P:=rs.put0 s2 ei ev eR nd t' (n' (by rw [aL]; exact (aC.mp nd).2)) fun b hb=>(sub b hb).imp id (fun z=>nomatch z)
   exact k σ _ _ P.1 P.2
theorem s_m0 {i : Nat} (slot : Slot "list" name bid) (hty : typeOf (.builtin bid)=pure (.type "method_descriptor")) (hm : MtM X bid r) (hL : LM X.K r F) (hx : PE X (.Name x px) (z7x i)) (ha : PAD X (e :: es) fl)
  (hbase : attributeBase (.Name x px) name X.env (eval (.Name x px) X.env)=eval (.Name x px) X.env:=by rfl)
  (hfew : ((backTo cp (starEach (e :: es) X.env)).all (fun x=>!x.1) && (backToKw cp (keywordEach [] X.env)).all (fun x=>x.1.isSome) && decide ((e :: es).length + ([] : List Keyword).length + (if ([] : List Keyword).isEmpty then 0 else 1) < 30))=true:=by rfl)
  (hline : (ap.endLine == cp.line)=true:=by rfl) (hs : starEach (e :: es) X.env=(false,eval e X.env) :: starEach es X.env:=by rfl) (hplain : (backTo cp (starEach es X.env)).any (·.1)=false:=by rfl)
  (hsw : swapsWith (.Call (.Attribute (.Name x px) name ap) (e :: es) [] cp) none pos.line X.env=pure false:=by rfl) :
  PS X (.Expr (.Call (.Attribute (.Name x px) name ap) (e :: es) [] cp) pos) (tS X.K H0 B0 fr RX (m0 i F fl)):=
 PS.imp (z5c (y3p PySem.F.plainAttrs_list slot hty hm hx ha hbase hfew hline hs hplain) hsw) (m0_core hL rfl)
noncomputable def m1 (i : Nat) (fk : DE) (F : List D->List D->Option (List D)) (fl : List DE) : SS->Option Out:=fun δ=>(fk (z0u δ)).bind fun dk=>match dk with
 | .int k=>(z0q fl (z0u δ)).bind fun args=>if z2l args=true then (match δ[i]? with
  | some (some (.ow (.lst ds)))=>(ixN ds.length k).bind fun j=>match ds[j]? with
   | some (.lst es)=>if z2l es=true then (F es args).bind fun es'=>if z2l es'=true then some (.nx ((z0y i δ).set i (some (.ow (.lst (ds.set j (.lst es'))))))) else none else none
   | _=>none
  | _=>none) else none
 | _=>none
noncomputable def st0 (i : Nat) (fk fv : DE) : SS->Option Out:=fun δ=>(fv (z0u δ)).bind fun d=>if d.imm=true then (fk (z0u δ)).bind fun dk=>(match dk,δ[i]? with
 | .int k,some (some (.ow (.lst ds)))=>(ixN ds.length k).map fun j=>.nx ((z0y i δ).set i (some (.ow (.lst (ds.set j d)))))
 | _,_=>none) else none
noncomputable def st1 (i : Nat) (fk fj fv : DE) : SS->Option Out:=fun δ=>(fv (z0u δ)).bind fun d=>if d.imm=true then (fk (z0u δ)).bind fun dk=>(fj (z0u δ)).bind fun dj=>(match dk,dj,δ[i]? with
 | .int k,.int j,some (some (.ow (.lst ds)))=>(ixN ds.length k).bind fun k'=>(match ds[k']? with
  | some (.lst es)=>if z2l es=true then (ixN es.length j).map fun j'=>.nx ((z0y i δ).set i (some (.ow (.lst (ds.set k' (.lst (es.set j' d))))))) else none
  | _=>none)
 | _,_,_=>none) else none
end
end L2
namespace L2
open PySem PySem.Spec PyProof.Rows
theorem Trees.setI {K : aa} {H : Hp} {d : D} {y : V} (ty : Tree K H d y []) : ∀ {ds : List D} {xs : List V} {A : List Addr} (j : Nat),Trees K H ds xs A->∃ A',Trees K H (ds.set j d) (xs.set j y) A'∧A'.Sublist A
 | [],_,_,_,h=>by
  obtain ⟨rfl,rfl⟩:=h
  exact ⟨[],⟨rfl,rfl⟩,List.Sublist.refl _⟩
 | e :: ds,_,_,0,h=>by
  unfold Trees at h
  obtain ⟨x,r,A1,A2,rfl,h1,h2,rfl⟩:=h
  refine ⟨A2,?_,dH _ _⟩
  rw [cW,cW]
  unfold Trees
  exact ⟨y,r,[],A2,rfl,ty,h2,rfl⟩
 | e :: ds,_,_,k + 1,h=>by
  unfold Trees at h
  obtain ⟨x,r,A1,A2,rfl,h1,h2,rfl⟩:=h
  obtain ⟨A',t,sb⟩:=Trees.setI ty k h2
  refine ⟨A1 ++ A',?_,List.Sublist.append_left sb _⟩
  rw [cX,cX]
  unfold Trees
  exact ⟨x,_,A1,A',rfl,h1,t,rfl⟩
section
variable {X : Cx} {H0 : Hp} {B0 : Addr->Prop} {fr : Bool} {RX : XR} {e ke je : Expr} {pos : Pos} {x : Str} {px p2 p3 : Pos}
theorem s_st0 {i : Nat} {fk fv : DE} (hx : PE X (.Name x px) (z7x i)) (hk : PD X ke fk) (hv : PD X e fv)
  (ha : ∀ v,assign (.Subscript (.Name x px) ke p2) X.env v=(do
   let ov ← holding [v] (eval (.Name x px) X.env)
   let iv ← holding [v,ov] (eval ke X.env)
   standAt p2
   holding [v,ov,iv] (setItem ov iv v)
   release [v,ov,iv] []):=by intro _; rfl)
  (hs : swapsWithSole [.Subscript (.Name x px) ke p2] e pos.line X.env=pure false:=by rfl) (hw : swappedStores [.Subscript (.Name x px) ke p2] e X.env=pure none:=by rfl)
  (h1 : (assignEach [.Subscript (.Name x px) ke p2] X.env).map (·.2)=[assign (.Subscript (.Name x px) ke p2) X.env]:=by rfl) :
  PS X (.Assign [.Subscript (.Name x px) ke p2] e pos) (tS X.K H0 B0 fr RX (st0 i fk fv)):=
 PS.imp (y8m hv (y8p hx hk y1T ha) hs hw h1) fun D σ H z_=>by
  obtain ⟨δ,R,o,rs,q,kk⟩:=z_
  unfold st0 at q
  cases e1 : fv (z0u δ) with
  | none=>rw [e1] at q; cases q
  | some d=>
  rw [e1] at q
  have q : (if d.imm=true then (fk (z0u δ)).bind fun dk=>(match dk,δ[i]? with
   | .int k,some (some (.ow (.lst ds)))=>(ixN ds.length k).map fun j=>Out.nx ((z0y i δ).set i (some (.ow (.lst (ds.set j d)))))
   | _,_=>none) else none)=some o:=q
  split at q
  case isFalse=>cases q
  case isTrue hi=>
  cases e2 : fk (z0u δ) with
  | none=>rw [e2] at q; cases q
  | some dk=>
  rw [e2] at q
  simp only [ax] at q
  split at q
  case h_2=>cases q
  case h_1=>
  rename_i k ds ei
  cases ej : ixN ds.length k with
  | none=>rw [ej] at q; cases q
  | some j=>
  rw [ej] at q
  cases q
  obtain ⟨a,xs,A,ev,ha',ts,eR,nd⟩:=rs.top ei
  refine ⟨noB,z0u δ,d,.no,rs.all,e1,fun v H1 s1 r1=>⟨.ref a,ev,noB,z0u δ,.int k,.no,rs.all.mono s1,e2,fun v2 H2 s2 r2=>?_⟩⟩
  cases (show v2=V.int k from r2)
  refine ⟨a,xs,k,j,rfl,rfl,s2 _ _ (s1 _ _ ha'),by rw [← ts.length]; exact ej,?_⟩
  obtain ⟨A',t',sb⟩:=Trees.setI ((r1.immTree d hi).mono s2) j (ts.mono (s1.trans s2))
  have P:=rs.put0 (s1.trans s2) ei ev eR nd t' ((aC.mp nd).2.sublist sb) fun b hb=>.inl (sb.subset hb)
  exact kk σ _ _ P.1 P.2
theorem s_st1 {i : Nat} {fk fj fv : DE} (hx : PE X (.Name x px) (z7x i)) (hk : PD X ke fk) (hj : PD X je fj) (hv : PD X e fv) (hpi : y0e ke:=by intro _ _; rfl)
  (ha : ∀ v,assign (.Subscript (.Subscript (.Name x px) ke p3) je p2) X.env v=(do
   let ov ← holding [v] (eval (.Subscript (.Name x px) ke p3) X.env)
   let iv ← holding [v,ov] (eval je X.env)
   standAt p2
   holding [v,ov,iv] (setItem ov iv v)
   release [v,ov,iv] []):=by intro _; rfl)
  (hs : swapsWithSole [.Subscript (.Subscript (.Name x px) ke p3) je p2] e pos.line X.env=pure false:=by rfl) (hw : swappedStores [.Subscript (.Subscript (.Name x px) ke p3) je p2] e X.env=pure none:=by rfl)
  (h1 : (assignEach [.Subscript (.Subscript (.Name x px) ke p3) je p2] X.env).map (·.2)=[assign (.Subscript (.Subscript (.Name x px) ke p3) je p2) X.env]:=by rfl) :
  PS X (.Assign [.Subscript (.Subscript (.Name x px) ke p3) je p2] e pos) (tS X.K H0 B0 fr RX (st1 i fk fj fv)):=
 PS.imp (y8m hv (y8p (pe_ix ix_list hx hk hpi) hj y1T ha) hs hw h1) fun D σ H z_=>by
  obtain ⟨δ,R,o,rs,q,kk⟩:=z_
  unfold st1 at q
  cases e1 : fv (z0u δ) with
  | none=>rw [e1] at q; cases q
  | some d=>
  rw [e1] at q
  have q : (if d.imm=true then (fk (z0u δ)).bind fun dk=>(fj (z0u δ)).bind fun dj=>(match dk,dj,δ[i]? with
   | .int k,.int j,some (some (.ow (.lst ds)))=>(ixN ds.length k).bind fun k'=>(match ds[k']? with
    | some (.lst es)=>if z2l es=true then (ixN es.length j).map fun j'=>Out.nx ((z0y i δ).set i (some (.ow (.lst (ds.set k' (.lst (es.set j' d))))))) else none
    | _=>none)
   | _,_,_=>none) else none)=some o:=q
  split at q
  case isFalse=>cases q
  case isTrue hi=>
  cases e2 : fk (z0u δ) with
  | none=>rw [e2] at q; cases q
  | some dk=>
  cases e3 : fj (z0u δ) with
  | none=>rw [e2,e3] at q; cases q
  | some dj=>
  rw [e2,e3] at q
  simp only [ax] at q
  split at q
  case h_2=>cases q
  case h_1=>
  rename_i k j ds ei
  cases ek : ixN ds.length k with
  | none=>rw [ek] at q; cases q
  | some k'=>
  rw [ek] at q
  have q : (match ds[k']? with
    | some (.lst es)=>if z2l es=true then (ixN es.length j).map fun j'=>Out.nx ((z0y i δ).set i (some (.ow (.lst (ds.set k' (.lst (es.set j' d))))))) else none
    | _=>none)=some o:=q
  split at q
  case h_2=>cases q
  case h_1 es ed=>
  split at q
  case isFalse=>cases q
  case isTrue hes=>
  cases ej : ixN es.length j with
  | none=>rw [ej] at q; cases q
  | some j'=>
  rw [ej] at q
  cases q
  obtain ⟨a,xs,b,ys,ev,ha',hxb,hb,hln,_,_⟩:=rs.put1 (.refl H) ei ed hes
  have hat : atI xs k=some (.ref b):=by
   unfold atI
   rw [← hln,ek]
   exact hxb
  refine ⟨noB,z0u δ,d,.no,rs.all,e1,fun v H1 s1 r1=>⟨.ref a,ev,noB,z0u δ,.int k,.no,rs.all.mono s1,e2,fun v2 H2 s2 r2=>?_⟩⟩
  cases (show v2=V.int k from r2)
  refine ⟨a,xs,k,.ref b,rfl,rfl,SqL.of (s2 _ _ (s1 _ _ ha')),hat,noB,z0u δ,.int j,.no,(rs.all.mono s1).mono s2,e3,fun v3 H3 s3 r3=>?_⟩
  cases (show v3=V.int j from r3)
  obtain ⟨a',xs',b',ys',ev',ha'',hxb',hb',_,tb,up⟩:=rs.put1 ((s1.trans s2).trans s3) ei ed hes
  rw [ev] at ev'; cases ev'
  rw [ha'] at ha''; cases ha''
  rw [hxb] at hxb'; cases hxb'
  rw [hb] at hb'; cases hb'
  refine ⟨b,ys,j,j',rfl,rfl,s3 _ _ (s2 _ _ (s1 _ _ hb)),by rw [← tb.length]; exact ej,?_⟩
  obtain ⟨A',t',sb⟩:=Trees.setI (((r1.immTree d hi).mono s2).mono s3) j' tb
  have eA : A'=[]:=List.sublist_nil.mp sb
  subst eA
  have P:=up _ _ t'
  exact kk σ _ _ P.1 P.2
end
section
variable {X : Cx} {e a b : Expr} {lo hi : Option Expr} {p2 pos : Pos}
noncomputable def tO (K : aa) (f : DS->Option (Option Int)) : TO:=fun σ H Q=>∃ B δ o,InB B H∧RepS K H B σ δ∧f δ=some o∧∀ H',Same H H'->Q o H'
noncomputable abbrev POD (X : Cx) (e : Option Expr) (f : DS->Option (Option Int)) : Prop:=PO X e (tO X.K f)
theorem PO.imp {eo : Option Expr} {t t' : TO} (h : PO X eo t) (w : ∀ σ H Q,t' σ H Q->t σ H Q) : PO X eo t':=fun pins s σ H Q I q=>h pins s σ H Q I (w σ H Q q)
noncomputable def y0T : DS->Option (Option Int):=fun _=>some none
noncomputable def y6z (f : DE) : DS->Option (Option Int):=fun δ=>match f δ with
 | some (.int i)=>some (some i)
 | _=>none
theorem y6B : POD X none y0T:=po_none.imp fun σ H Q z_=>by
 obtain ⟨B,δ,o,hB,S,q,k⟩:=z_
 cases q
 exact k H (.refl H)
theorem y7W {f : DE} (h : PD X e f) : POD X (some e) (y6z f):=(po_some h).imp fun σ H Q z_=>by
 obtain ⟨B,δ,o,hB,S,q,k⟩:=z_
 unfold y6z at q
 split at q
 ·rename_i i e1
  cases q
  exact ⟨B,δ,.int i,hB,S,e1,fun v H' s r=>⟨i,r,k H' s⟩⟩
 ·cases q
noncomputable def y8d (ds : List D) (lo hi : Option Int) : List D:=(ds.drop (HT.sIx ds.length 0 lo)).take (HT.sIx ds.length ds.length hi - HT.sIx ds.length 0 lo)
noncomputable def dCut (f : DE) (fl fh : DS->Option (Option Int)) : DS->Option (List D):=fun δ=>match f δ with
 | some (.lst ds)=>(fl δ).bind fun lo=>(fh δ).map fun hi=>y8d ds lo hi
 | some (.scr ns)=>(fl δ).bind fun lo=>(fh δ).map fun hi=>y8d (ns.map .int) lo hi
 | _=>none
theorem y6q {f : DE} {fl fh : DS->Option (Option Int)} (he : PD X e f) (hl : POD X lo fl) (hh : POD X hi fh) : PF X (.Subscript e (.Slice lo hi none p2) pos) (dCut f fl fh):=(y6C sl_list he hl hh).imp fun σ H Q z_=>by
 obtain ⟨B,δ,ds',hB,S,q,k⟩:=z_
 unfold dCut at q
 have core : ∀ (d : D) (ds : List D),f δ=some d->((fl δ).bind fun lo=>(fh δ).map fun hi=>y8d ds lo hi)=some ds'->(∀ v H1,Rep X.K H1 B d v->∃ a xs,v = .ref a∧(∀ H2,Same H1 H2->SqL X.K H2 a xs)∧Reps X.K H1 B ds xs) →
   tSl (rSlL X.K) (tD X.K f) (tO X.K fl) (tO X.K fh) σ H Q:=by
  intro d ds e1 q get
  cases e2 : fl δ with
  | none=>rw [e2] at q; cases q
  | some l=>
  cases e3 : fh δ with
  | none=>rw [e2,e3] at q; cases q
  | some u=>
  rw [e2,e3] at q
  cases q
  refine ⟨B,δ,_,hB,S,e1,fun v H1 s1 r1=>⟨B,δ,l,hB.mono s1,S.mono s1,e2,fun H2 s2=>⟨B,δ,u,(hB.mono s1).mono s2,(S.mono s1).mono s2,e3,fun H3 s3=>?_⟩⟩⟩
  obtain ⟨a,xs,rfl,hq,rs⟩:=get v H1 r1
  refine ⟨a,xs,rfl,hq H3 (s2.trans s3),fun p hp=>?_⟩
  have sa:=z0r (o:=.lst (cutV xs l u)) hp
  refine k p _ _ (((s1.trans s2).trans s3).trans sa) ((s1.trans (s2.trans s3)).free hp) z0o ?_
  unfold y8d cutV
  rw [rs.length]
  exact ((rs.drop _).take _).mono ((s2.trans s3).trans sa)
 split at q
 case h_3=>cases q
 case h_1 ds e1=>
  refine core _ ds e1 q fun v H1 r1=>?_
  unfold Rep at r1
  obtain ⟨a,xs,rfl,_,hq,rs⟩:=r1
  exact ⟨a,xs,rfl,fun H2 s2=>SqL.of (s2 _ _ hq),rs⟩
 case h_2 ns e1=>
  refine core _ (ns.map .int) e1 q fun v H1 r1=>?_
  unfold Rep at r1
  obtain ⟨a,rfl,hq⟩:=r1
  exact ⟨a,_,rfl,fun H2 s2=>(s2.sf hq).sq,z1M ns⟩
end
section
variable {X : Cx} {pos : Pos} {x : Str} {iter elt : Expr} {N' : List Str} {sc : Scope} {ifs : List Expr} {n : Nat} {px : Pos} {fi : DS->Option (List D)} {fc : DS->Option Bool} {fe : DE}
theorem y1l {σ : St} {H : Hp} {Q : VK} (hσ : σ.length=n) (hq : tN X.K (mkL (z0X fi fc fe)) σ H Q) : y5F (tI X.K fi) (z2A n) (tT X.K fc) (tN X.K fe) 1 σ H Q:=by
 obtain ⟨δ,d0,Sδ,q,k⟩:=hq
 unfold mkL at q
 cases eds : z0X fi fc fe δ with
 | none=>rw [eds] at q; cases q
 | some ds=>
 rw [eds] at q
 cases q
 unfold z0X at eds
 cases e1 : fi δ with
 | none=>rw [e1] at eds; cases eds
 | some xs=>
 rw [e1] at eds
 have q1 : (if xs.length≤sizeLine then z1U (fun x=>(fc (δ ++ [some x])).bind fun k=>if k=true then (fe (δ ++ [some x])).map some else some none) xs else none)=some ds:=eds
 split at q1
 case isFalse=>cases q1
 case isTrue hsz=>
 refine ⟨noB,δ,xs,.no,Sδ,e1,fun J H1 s1 itw=>fun Da hD=>?_⟩
 have hD0 : H Da=none:=s1.free hD
 have it:=itw (fun a=>H1 a=none) fun a ha=>ha
 obtain ⟨I,hI⟩ : ∃ I : Nat->Nat->St->Hp->Prop,I=fun i m σ' H'=>m=xs.length - i∧i≤xs.length∧(∃ w,σ'=σ ++ [w])∧Same H1 H'∧∃ ys dn rs A,H' Da=some (.lst ys)∧Trees X.K H' dn ys A∧(Da :: A).Nodup∧(∀ a∈A,H1 a=none)∧ds=dn ++ rs∧dn.length≤i ∧
   z1U (fun x=>(fc (δ ++ [some x])).bind fun k=>if k=true then (fe (δ ++ [some x])).map some else some none) (xs.drop i)=some rs:=⟨_,rfl⟩
 refine ⟨I,⟨xs.length,by rw [hI]; exact ⟨by simp,bA _,⟨none,rfl⟩,z0r hD,[],[],ds,[],z0o,.nil,aC.mpr ⟨(fun z=>nomatch z),bf⟩,(fun a z=>nomatch z),rfl,ar _,q1⟩⟩,?_⟩
 intro i m σ' H' hh
 rw [hI] at hh
 obtain ⟨rfl,hi',⟨w,rfl⟩,sm,ys,dn,rs,A,hys,tys,nd,fr,hds,hln,hrs⟩:=hh
 have kp : Keep X.K (fun a=>noB a∨H1 a=none) H1 H':=.same sm
 by_cases hlt : i < xs.length
 ·refine .inr ⟨it.go i H' kp hlt,fun σ'' H''=>I (i + 1) (xs.length - (i + 1)) σ'' H'',fun σ'' H'' h=>⟨xs.length - (i + 1),by omega,h⟩,fun xv H2 hy=>?_⟩
  obtain ⟨s2,d,hd,rd⟩:=it.yld i H' xv H2 kp hy
  have hdi:=hd hlt
  have hx : xs.drop i=d :: xs.drop (i + 1):=by
   obtain ⟨hl,e⟩:=a7.mp hdi
   rw [bj hl,e]
  rw [hx] at hrs
  obtain ⟨o,rs',e2,e3,e4⟩:=z5f hrs
  show tT X.K fc ((σ ++ [w]).set n (some xv)) H2 _
  rw [← hσ,z8d]
  have S2 : RepS X.K H2 noB (σ ++ [some xv]) (δ ++ [some d]):=(((Sδ.mono s1).mono sm).mono s2).snoc (rd.anti fun a z=>z.elim)
  have hl2 : ys.length < sizeLine:=by
   have:=tys.length
   omega
  cases ec : fc (δ ++ [some d]) with
  | none=>rw [ec] at e2; cases e2
  | some kk=>
   rw [ec] at e2
   have e2' : (if kk=true then (fe (δ ++ [some d])).map some else some none)=some o:=e2
   refine ⟨noB,δ ++ [some d],kk,.no,S2,ec,fun H3 s3=>?_⟩
   cases kk with
   | false=>
    rw [if_neg ao] at e2'
    rw [if_neg ao]
    cases e2'
    rw [hI]
    exact ⟨rfl,hlt,⟨_,rfl⟩,(sm.trans s2).trans s3,ys,dn,rs',A,s3 _ _ (s2 _ _ hys),(tys.mono s2).mono s3,nd,fr,by rw [hds,e4]; rfl,c9 hln,e3⟩
   | true=>
    rw [if_pos rfl] at e2'
    rw [if_pos rfl]
    cases ey : fe (δ ++ [some d]) with
    | none=>rw [ey] at e2'; cases e2'
    | some y=>
     rw [ey] at e2'
     cases e2'
     refine ⟨δ ++ [some d],y,S2.mono s3,ey,fun yv H5 A5 s5 t5 nd5 fr5=>⟨ys,s5 _ _ (s3 _ _ (s2 _ _ hys)),hl2,?_⟩⟩
     have s15 : Same H' H5:=(s2.trans s3).trans s5
     have hu : H5 Da=some (.lst ys):=s15 _ _ hys
     have mu : Mut (H5 Da):=by rw [hu]; exact trivial
     have hDa3 : H3 Da=some (.lst ys):=s3 _ _ (s2 _ _ hys)
     have nDa : Da ∉ A ++ A5:=fun z=>by
      rcases aF.mp z with z | z
      ·exact (aC.mp nd).1 z
      ·have:=fr5 Da z
       rw [hDa3] at this; cases this
     rw [hI]
     refine ⟨rfl,hlt,⟨_,rfl⟩,fun b u hb=>?_,ys ++ [yv],dn ++ [y],rs',A ++ A5,z0o,?_,aC.mpr ⟨nDa,?_⟩,fun a ha=>?_,by rw [hds,e4,aZ]; rfl,by rw [aK]; simp; omega,e3⟩
     ·rw [z0t (z1q hb hD)]
      exact s15 _ _ (sm _ _ hb)
     ·refine Trees.keep (Keep.upd (K:=X.K) (B:=fun x=>x=Da) rfl mu).i _ ((tys.mono s15).snoc t5) fun b hb u q=>?_
      have ne : b≠Da:=fun z=>nDa (z ▸ hb)
      rw [z0t ne]; exact q
     ·refine ba.mpr ⟨(aC.mp nd).2,nd5,fun b hb c hc z=>?_⟩
      subst z
      obtain ⟨u,q,_⟩:=Trees.held _ tys b hb
      have:=fr5 b hc
      rw [(s2.trans s3) _ _ q] at this; cases this
     ·rcases aF.mp ha with z | z
      ·exact fr a z
      ·exact sm.free ((s2.trans s3).free (fr5 a z))
 ·have e : i=xs.length:=by omega
  subst e
  refine .inl ⟨it.stop _ H' kp (ar _),?_⟩
  rw [bV] at hrs
  cases hrs
  rw [aL] at hds
  subst hds
  refine k (.ref Da) H' (Da :: A) (s1.trans sm) ?_ nd fun a ha=>?_
  ·unfold Tree
   exact ⟨Da,ys,A,rfl,hys,tys,rfl⟩
  ·rcases ai.mp ha with z | z
   ·rw [z]; exact hD0
   ·exact s1.free (fr a z)
theorem z2J (hc : X.calm=true) (S : CompScope X.N X.env.scope.names N' 1 sc) (hn : n=X.N.length) (hi : PID X (.Name x px) iter fi)
  (hg : ∀ s H fp pins E,PG (z0I X N' sc s H fp pins E) (.Name x px) (z2A n)) (ht : ∀ s H fp pins E,y5M (z0I X N' sc s H fp pins E) ifs (tT X.K fc)) (he : ∀ s H fp pins E,PE (z0I X N' sc s H fp pins E) elt (tN X.K fe))
  (hs : ∀ x,foldedSetIterable iter X.env x=pure x:=by intro _; rfl) : PN X (.ListComp elt [⟨.Name x px,iter,ifs,0⟩] sc pos) (mkL (z0X fi fc fe)):=by
 intro pins s σ H Q I hq
 exact y0p hc S hi ⟨hg,ht,he⟩ hs pins s σ H Q I (y1l (by rw [hn,I.len]) hq)
theorem pas_cN {i : Nat} {y : Str} {py spos : Pos} (hN : X.N.Nodup) (hy : X.N[i]? = some y) (hyl : X.env.scope.names.lookup y=some .local) (hc : X.calm=true) (S : CompScope X.N X.env.scope.names N' 1 sc) (hn : n=X.N.length) (hi : PID X (.Name x px) iter fi)
  (hg : ∀ s H fp pins E,PG (z0I X N' sc s H fp pins E) (.Name x px) (z2A n)) (ht : ∀ s H fp pins E,y5M (z0I X N' sc s H fp pins E) ifs (tT X.K fc)) (he : ∀ s H fp pins E,PE (z0I X N' sc s H fp pins E) elt (tN X.K fe))
  (hsw : swapsWith (.ListComp elt [⟨.Name x px,iter,ifs,0⟩] sc pos) (some (.Name y py)) spos.line X.env=pure true:=by rfl) (hs : ∀ x,foldedSetIterable iter X.env x=pure x:=by intro _; rfl) :
  PS X (.Assign [.Name y py] (.ListComp elt [⟨.Name x px,iter,ifs,0⟩] sc pos) spos) (tAsg (tN X.K (mkL (z0X fi fc fe))) (z2A i)):=by
 intro pins s σ H D I hq
 exact y4Z hc S hN hy hyl hi ⟨hg,ht,he⟩ hsw hs pins s σ H D I (y1l (by rw [hn,I.len]) hq)
end
end L2
namespace L2
open PySem PySem.Spec PyProof.Rows
section
variable {X : Cx} {a b : Expr} {pos : Pos} {f g : DE}
noncomputable def y2S : D->D->Option D:=iop fun i j=>some (.int (i + j))
noncomputable def subI : D->D->Option D:=iop fun i j=>some (.int (i - j))
noncomputable def mulI : D->D->Option D:=iop fun i j=>if CMul i j then some (.int (i * j)) else none
noncomputable def y5K : D->D->Option D:=iop fun i j=>if CDiv i j then some (.int (i / j)) else none
noncomputable def z9w : D->D->Option D:=iop fun i j=>if 0 < j then some (.int (i % j)) else none
noncomputable def ltI : D->D->Option D:=iop fun i j=>some (.bl (decide (i < j)))
noncomputable def leI : D->D->Option D:=iop fun i j=>some (.bl (decide (i≤j)))
noncomputable def gtI : D->D->Option D:=iop fun i j=>some (.bl (decide (j < i)))
theorem z4P (ha : PD X a f) (hb : PD X b g) : PD X (.BinOp a .Add b pos) (d2 y2S f g):=y4k op_add y5l ha hb
theorem y8w (ha : PD X a f) (hb : PD X b g) : PD X (.BinOp a .Sub b pos) (d2 subI f g):=y4k op_sub y5l ha hb
theorem pd_mul (ha : PD X a f) (hb : PD X b g) : PD X (.BinOp a .Mult b pos) (d2 mulI f g):=y4k op_mul y4F ha hb
theorem y1Y (ha : PD X a f) (hb : PD X b g) : PD X (.BinOp a .FloorDiv b pos) (d2 y5K f g):=y4k op_fdiv y4F ha hb
theorem z5w (ha : PD X a f) (hb : PD X b g) : PD X (.BinOp a .Mod b pos) (d2 z9w f g):=y4k op_mod y4F ha hb
theorem y5C (hu : X.A.units + 64 < cLine) (ha : PD X a f) (hb : PD X b g) : PD X (.Compare a [.Eq] [b] pos) (d2 eqD f g):=pd_cmp (y8E hu) o2_eq ha hb (z9m _)
theorem pt_lt (ha : PD X a f) (hb : PD X b g) : PTD X (.Compare a [.Lt] [b] pos) (z1v (d2 ltI f g)):=z4U op_lt z5G ha hb (z9m _)
theorem pt_gt (ha : PD X a f) (hb : PD X b g) : PTD X (.Compare a [.Gt] [b] pos) (z1v (d2 gtI f g)):=z4U op_gt z5G ha hb (z9m _)
theorem z8M (hu : X.A.units + 64 < cLine) (ha : PD X a f) (hb : PD X b g) : PTD X (.Compare a [.Eq] [b] pos) (z1v (d2 eqD f g)):=z4U (y8E hu) o2_eq ha hb (z9m _)
theorem pt_ne (hu : X.A.units + 64 < cLine) (ha : PD X a f) (hb : PD X b g) : PTD X (.Compare a [.NotEq] [b] pos) (z1v (d2 neD f g)):=z4U (op_neD hu) o2_ne ha hb (z9m _)
theorem y7u (hu : X.A.units + 64 < cLine) (ha : PD X a f) (hb : PD X b g) (hm : behindInMarks .In b=false:=by rfl) : PTD X (.Compare a [.In] [b] pos) (z1v (d2 inD f g)):=z4U (op_inD hu) o2_in ha hb hm
theorem y8k (hu : X.A.units + 64 < cLine) (ha : PD X a f) (hb : PD X b g) (hm : behindInMarks .NotIn b=false:=by rfl) : PTD X (.Compare a [.NotIn] [b] pos) (z1v (d2 y8a f g)):=z4U (op_ninD hu) o2_nin ha hb hm
end
noncomputable def y0G (H : Hp) (A : List Addr) : Hp:=fun a=>if a∈A then none else H a
theorem y1u {H : Hp} {A : List Addr} {a : Addr} (h : a∈A) : y0G H A a=none:=if_pos h
theorem z6t {H : Hp} {A : List Addr} {a : Addr} (h : a ∉ A) : y0G H A a=H a:=if_neg h
theorem y2N {H : Hp} {A : List Addr} : Same (y0G H A) H:=fun a o e=>by
 by_cases h : a∈A
 ·rw [y1u h] at e; cases e
 ·rw [z6t h] at e; exact e
section
variable {P : Program} {w : World} {K : aa} {mg : Str->Option Value} {base : Heap}
end
section
variable {X : Cx} {H0 : Hp} {B0 : Addr->Prop} {fr : Bool} {RX : XR} {e : Expr} {es : List Expr} {pos p px px2 cp : Pos} {x fn : Str} {k : Nat} {F : List D->Option D} {fl : List DE}
end
noncomputable def y6H (K : aa) (F : List D->Option D) : Sp:=fun vs H Q _=>∃ (a : Addr) (ns : List Int),vs=[.ref a]∧SqF K H a (ns.map V.int)∧F [.scr ns]=some (.bl true)∧∀ H',Q (.bl true) H'
theorem y7w {K : aa} {H : Hp} {a : Addr} {xs : List V} (hO : Only H) (h : SqL K H a xs) : SqF K H a xs:=by
 rcases h with (h | h) | h
 ·rcases hO a with z | ⟨o,ys,z⟩ <;> (rw [h] at z; cases z)
 ·exact .inl h
 ·exact .inr h
theorem law_of {P : Program} {w : World} {K : aa} {mg : Str->Option Value} {base : Heap} {k : Nat} {f : Addr} {fd : FuncData} {ps : List Str} {F : List D->Option D} (h : FnOk P w K mg base CX0 k f fd ps (spN K F)) : FnOk P w K mg base CX0 k f fd ps (y6H K F):=by
 refine h.imp fun vs H Q E z=>?_
 obtain ⟨a,ns,rfl,hq,e,q⟩:=z
 refine ⟨[.scr ns],.bl true,.cons ?_ .nil,e,fun v H' A s t nd fr=>?_⟩
 ·unfold Rep
  exact ⟨a,rfl,hq⟩
 ·cases (show v=V.bl true∧_ from t).1
  exact q H'
end L2
namespace L2
open PySem PySem.Spec PyProof.Rows
section
variable {X : Cx} {H0 : Hp} {B0 : Addr->Prop} {fr : Bool} {RX : XR} {e e2 : Expr} {pos ap cp : Pos} {x : Str} {px : Pos} {f g : DE}
noncomputable def y0W (i : Nat) (f : DE) : SS->Option Out:=fun δ=>(f (z0u δ)).bind fun d=>(match δ[i]? with
 | some (some (.ow (.lst ds)))=>(z7P ds [d]).map fun ds'=>.nx ((z0y i δ).set i (some (.ow (.lst ds'))))
 | _=>none)
theorem z6v {i : Nat} (hx : PE X (.Name x px) (z7x i)) (he : PN X e f) (hbase : attributeBase (.Name x px) "append" X.env (eval (.Name x px) X.env)=eval (.Name x px) X.env:=by rfl)
  (hfew : ((backTo cp (starEach [e] X.env)).all (fun x=>!x.1) && (backToKw cp (keywordEach [] X.env)).all (fun x=>x.1.isSome) && decide ([e].length + ([] : List Keyword).length + (if ([] : List Keyword).isEmpty then 0 else 1) < 30))=true:=by rfl)
  (hline : (ap.endLine == cp.line)=true:=by rfl) (hs : starEach [e] X.env=(false,eval e X.env) :: starEach [] X.env:=by rfl) (hsw : swapsWith (.Call (.Attribute (.Name x px) "append" ap) [e] [] cp) none pos.line X.env=pure false:=by rfl) :
  PS X (.Expr (.Call (.Attribute (.Name x px) "append" ap) [e] [] cp) pos) (tS X.K H0 B0 fr RX (y0W i f)):=
 PS.imp (z5c (y3p PySem.F.plainAttrs_list PySem.F.slot_list_append PySem.F.type_list_append z4T hx (z1x he pa_nil hs) hbase hfew hline hs rfl) hsw) fun D σ H z_=>by
  obtain ⟨δ,R,o,rs,q,k⟩:=z_
  unfold y0W at q
  cases e1 : f (z0u δ) with
  | none=>rw [e1] at q; cases q
  | some d=>
  rw [e1] at q
  simp only [ax] at q
  split at q
  case h_2=>cases q
  case h_1=>
  rename_i ds ei
  cases e2 : z7P ds [d] with
  | none=>rw [e2] at q; cases q
  | some ds'=>
  rw [e2] at q
  cases q
  obtain ⟨a,xs,A,ev,ha,ts,eR,nd⟩:=rs.top ei
  refine ⟨.ref a,ev,.inl ⟨rfl,xs,SqL.of ha⟩,z0u δ,d,rs.all,e1,fun y H2 C s2 t2 nC fC=>?_⟩
  show z8u (.ref a) [y] H2 fun _ H1=>D.nx σ H1
  refine z5Y (K:=X.K) H2 a xs ds [d] [y] ds' _ (s2 _ _ ha) ts.length (.one (t2.rep d (fun _ _ z=>z.elim))) e2 fun w xs' up=>?_
  obtain ⟨A',t',n',sub⟩:=up H2 A C (ts.mono s2) (.one t2)
  have hAC : (A ++ C).Nodup:=ba.mpr ⟨(aC.mp nd).2,nC,fun b hb c hc z=>by
   subst z
   obtain ⟨u,q,_⟩:=Trees.held ds ts b hb
   rw [fC b hc] at q; cases q⟩
  have P:=rs.put0 s2 ei ev eR nd t' (n' hAC) fun b hb=>(sub b hb).imp id fun z=>fC b z
  exact k σ _ _ P.1 P.2
end
end L2
namespace L2
open PySem PySem.Spec PyProof.Rows
open PySem.MeetsSeq PySem.MeetsSeq2 PySem.MeetsSeq3 PySem.SeqRoads2 PySem.SeqAt
open PySem.AutoSeq1 (wpAny_loadPart')
section
variable {X : Cx}
theorem Inv.tupleO {pins : List (Addr × Obj)} {σ : St} {H : Hp} {s : Shared} {a : Addr} {xs : List V} (I : Inv X pins σ H s) (h : SqT X.K H a xs) : ∃ (its : List Value) (ob : Obj) (n : Nat),Vals xs its∧s.heap.get? a=some ob∧ob.cls = .type "tuple" ∧ ob.dict=none∧ob.data = .seq its.toArray n∧xs.length≤sizeLine:=by
 rcases h with h | ⟨o,its,n,hk,hc,hs,hz,r⟩
 ·obtain ⟨z,its,r,ob,e,c,n,hd⟩:=h.ok I.hok
  exact ⟨its,ob,n,r,e,c.1,c.2,hd,z⟩
 ·refine ⟨its.toList,o,n,r,I.kIn a o hk,hc.1,hc.2,by simpa using hs,?_⟩
  have e:=r.length
  simp only [bQ] at e
  omega
variable {o e : Expr} {es : List Expr} {to : TE} {t : TA} {name : Str} {apos cpos : Pos} {id : String} {r : V->List V->Hp->VK->Prop}
theorem z9h : ∀ {ds : List D} {ns : List Int},z3h ds=some ns->ds=ns.map D.int
 | [],ns,h=>by cases h; rfl
 | .int i :: r,ns,h=>by
  unfold z3h at h
  cases e : z3h r with
  | none=>rw [e] at h; cases h
  | some ms=>rw [e] at h; cases h; rw [aT,z9h e]
 | .non :: _,_,h=>by cases h
 | .bl _ :: _,_,h=>by cases h
 | .str _ :: _,_,h=>by cases h
 | .lst _ :: _,_,h=>by cases h
 | .tup _ :: _,_,h=>by cases h
 | .scr _ :: _,_,h=>by cases h
 | .dct _ _ :: _,_,h=>by cases h
 | .exc _ :: _,_,h=>by cases h
theorem z7R {K : aa} {H : Hp} {B : Addr->Prop} : ∀ {ns : List Int} {xs : List V},Reps K H B (ns.map D.int) xs->xs=ns.map V.int
 | [],_,h=>by unfold Reps at h; exact h
 | n :: ns,_,h=>by
  rw [aT] at h
  unfold Reps at h
  obtain ⟨x,r,rfl,h1,h2⟩:=h
  unfold Rep at h1
  rw [h1,z7R h2]
  rfl
end
end L2
namespace L2
open PySem PySem.Spec PyProof.Rows
open PySem.AutoSeq1 (wpAny_loadPart')
section
variable {prog : Program} {w : World} {A : Around} {E : Value->Shared->Prop} {s : Shared}
end
section
variable {X : Cx}
variable {a b : Expr} {f g : DE} {p p2 pos pos2 : Pos}
end
end L2
namespace L2
open PySem PySem.Spec PyProof.Rows
section
variable {X : Cx} {pins : List (Addr × Obj)} {σ : St} {H : Hp} {s : Shared} {h' : Heap}
theorem Inv.turnedL {t' : Nat} {fp : List Addr} (I : Inv X pins σ H s) (k : ∀ b o,b ∉ fp->s.heap.get? b=some o->h'.get? b=some o) (hf : ∀ b∈fp,y0v X pins H b) : Inv X pins σ H { s with heap:=h',toks:=t' }:=by
 have nit : ∀ b u,H b=some u->b ∉ fp:=fun b u e z=>by rw [(hf b z).1] at e; cases e
 have nL : X.env.locals ∉ fp:=fun z=>(hf _ z).2.1 rfl
 refine I.step (g':=s.gens) (d':=s.drawn) (ch:=fp) (fun b hb=>?_) (fun b o _ _ hc e _=>k b o hc e) (fun b o _ _ hc e _=>⟨o.slots,k b o hc e⟩) (fun _ _ _ _ n=>n)
  (fun b o hc e=>⟨o,k b o hc e⟩) (fun _ _ e=>e) (fun _ _ _ e=>e) (fun b ps e=>⟨#[],by rw [e]; simp⟩) (fun m hm=>?_) (fun b u e=>?_) I.bare
 ·obtain ⟨f0,f1,f2,f3,f4,f5⟩:=hf b hb
  exact ⟨f3,f1,f4,f5⟩
 ·obtain ⟨o,es,ep,ho,r⟩:=hm
  exact ⟨o,es,ep,k _ o nL ho,r⟩
 ·refine (I.hok b u e).stay (fun c v hc q=>k c v ?_ q) (fun _ q=>q) fun _ _ q=>q
  rcases hc with z | z
  ·rw [z]; exact nit b u e
  ·exact nit c _ z
noncomputable def Ite (K : aa) (a : Addr) : It:=
 ⟨fun i H=>∃ xs x,SqL K H a xs∧xs[i]? = some x,fun i H v H'=>∃ p x,H p=none∧v = .ref p∧H'=upd H p (.tup [.int (i : Nat),x])∧∀ xs,SqL K H a xs->xs[i]? = some x,fun i H=>∃ xs,SqL K H a xs∧xs.length≤i⟩
theorem y4t {P : Program} {w : World} {K : aa} {elts : List Expr} {x1} {tp : Pos} (a e it : Addr) (hne : e≠it) :
  Turn P w K (.Tuple elts x1 tp) (Ite K a) [e,it] e (fun i h=>(∃ old,IsEnum h e it ((i : Nat) : Int) old)∧h.IsListIter it a i) where
 mem:=by simp
 obj:=fun i h st b hb=>by
  obtain ⟨⟨old,he⟩,o,eo,c,d⟩:=st
  rcases ai.mp hb with z | z
  ·subst z
   exact ⟨_,he,fun v z=>by cases z⟩
  ·have z : b=it:=by simpa using z
   subst z
   exact ⟨o,eo,fun v z=>by rw [d] at z; cases z⟩
 keep:=fun i h h' st k=>by
  obtain ⟨⟨old,he⟩,hi⟩:=st
  exact ⟨⟨old,k e (by simp) _ he⟩,hi.at fun o q=>k it (by simp) o q⟩
 item:=by
  intro X hP hw hK hc i pins s σ H E I hf st hg
  subst hP hw hK
  obtain ⟨xs,x,hq,hx⟩:=hg
  obtain ⟨its,rv,p,hz⟩:=I.list hq
  obtain ⟨u,hu,ru⟩:=rv.get hx
  obtain ⟨⟨old,he⟩,hi⟩:=st
  refine wpAny_pyNext_enum_item he hi p.isList (x:=u) (by simpa using hu) hne fun h1 heo hi1 ht1 hz1 hk1=>⟨_,rfl,?_⟩
  refine wpAny_letOwnedTupleGo_enum heo fun h2 he2 hs2=>?_
  have hs2 : Heap.SameBut e h1 h2:=hs2
  have elt : e < s.heap.objs.size:=Heap.lt_size he
  obtain ⟨oi,eoi,_⟩:=id hi
  have ilt : it < s.heap.objs.size:=Heap.lt_size eoi
  have hp : H s.heap.objs.size=none:=I.hok.fresh (ar _)
  have I1 : Inv X pins σ (upd H s.heap.objs.size (.tup [.int (i : Nat),x])) { s with heap:=s.heap.push { cls:=.type "tuple",data:=.seq #[.int (i : Nat) s.toks,u] },toks:=s.toks + 1 }:=
   I.laid (fun b o q=>Heap.get?_push_of_some _ q) (ar _) (show ObjOk X.prog X.w _ _ _ (.tup [.int (i : Nat),x]) from ⟨by show 2≤sizeLine; rw [sizeLine_eq]; decide,[.int (i : Nat) s.toks,u],.cons ⟨_,rfl⟩ (.cons ru .nil),TupN.new _ _⟩)
  have hf1 : ∀ b∈[e,it],y0v X pins (upd H s.heap.objs.size (.tup [.int (i : Nat),x])) b:=fun b hb=>by
   obtain ⟨f0,f⟩:=hf b hb
   refine ⟨?_,f⟩
   have : b≠s.heap.objs.size:=by
    rcases ai.mp hb with z | z
    ·rw [z]; exact aH elt
    ·have z : b=it:=by simpa using z
     rw [z]; exact aH ilt
   rw [z0t this]
   exact f0
  have kk : ∀ b o,b ∉ [e,it]->(s.heap.push { cls:=.type "tuple",data:=.seq #[.int (i : Nat) s.toks,u] }).get? b=some o->h2.get? b=some o:=by
   intro b o hb q
   have hbe : b≠e:=fun z=>hb (by simp [z])
   have hbi : b≠it:=fun z=>hb (by simp [z])
   rw [hs2.2 b hbe]
   by_cases hbs : b=s.heap.objs.size
   ·subst hbs
    rw [ht1]
    have : (s.heap.push { cls:=.type "tuple",data:=.seq #[.int (i : Nat) s.toks,u] }).get? s.heap.objs.size=some { cls:=.type "tuple",data:=.seq #[.int (i : Nat) s.toks,u] }:=Heap.get?_push_size _ rfl
    exact this.symm.trans q
   ·have q' : s.heap.get? b=some o:=(Heap.get?_push_ne s.heap _ _ hbs).symm.trans q
    exact hk1 b o hbe hbi q'
  have I2 : Inv X pins σ (upd H s.heap.objs.size (.tup [.int (i : Nat),x])) { s with heap:=h2,toks:=s.toks + 1 }:=Inv.turnedL (s:={ s with heap:=s.heap.push { cls:=.type "tuple",data:=.seq #[.int (i : Nat) s.toks,u] },toks:=s.toks + 1 }) (h':=h2) (t':=s.toks + 1) (fp:=[e,it]) I1 kk hf1
  refine ⟨.ref s.heap.objs.size,_,I2,rfl,⟨_,x,hp,rfl,rfl,fun ys hy=>by rw [I.list_inj hy hq]; exact hx⟩,⟨⟨u,?_⟩,?_⟩,fun b hb=>(hf1 b hb).1⟩
  ·have : (((i + 1 : Nat) : Int))=((i : Int) + 1):=by omega
   rw [this]
   exact he2
  ·exact hi1.at fun o q=>(hs2.2 it (Ne.symm hne)).trans q
 done:=by
  intro X hP hw hK hc i pins s σ H E I hf st hg
  subst hP hw hK
  obtain ⟨xs,hq,hx⟩:=hg
  obtain ⟨its,rv,p,hz⟩:=I.list hq
  obtain ⟨⟨old,he⟩,hi⟩:=st
  have hl:=rv.length
  exact wpAny_pyNext_enum_end (I.ok.hd hc) he hi p.isList (by simp; omega) fun h' eb=>⟨rfl,I.turnedL (t':=s.toks) (fp:=[e,it]) (fun b o hb q=>eb b o (fun z=>hb (by simp [z])) q) hf⟩
 self:=fun _ _ _ _ _ st h=>let ⟨⟨_,he⟩,_⟩:=st; wpAny_pyIter_enum he h
noncomputable def iEnum (K : aa) (tl : TE) : TI:=fun σ H R=>tl σ H fun x H1=>∃ a,[x]=[V.ref a]∧(∃ xs,SqL K H1 a xs)∧R (Ite K a) H1
theorem pi_enum {elts : List Expr} {x1} {tp p pos : Pos} {l : Expr} {tl : TE} (hg : Gl X "enumerate") (hm : X.mg "enumerate" = none) (hl : PE X l tl) (hs : starEach [l] X.env=[(false,eval l X.env)]:=by rfl) :
  PI X (.Tuple elts x1 tp) (.Call (.Name "enumerate" p) [l] [] pos) (iEnum X.K tl):=by
 intro pins s σ H R I h
 have hA : PA X [l] (fun σ H Q=>tl σ H fun x H1=>Q [x] H1):=(z1x hl pa_nil (by rw [hs]; rfl)).imp fun σ H Q q=>q
 refine wpAny_Call_Name_kw (z4H I hg hm boot_enumerate (PyProof.Rows.callWith_type1 (thn (hA pos pins s σ H (fun vs H1=>∃ a,vs=[V.ref a]∧(∃ xs,SqL X.K H1 a xs)∧R (Ite X.K a) H1) I h) fun us s1 ⟨vs,H1,I1,r1,q1⟩=>?_) hs rfl))
 obtain ⟨a,rfl,⟨xs,hq⟩,q⟩:=q1
 obtain ⟨u,rfl,ru⟩:=r1.one
 cases ru
 obtain ⟨its,rv,pl,hz⟩:=I1.list hq
 refine call_enumerate_list pl.isList fun h1 he hi hsz kp=>?_
 refine wpAny_pyIter_enum he ?_
 have I2 : Inv X pins σ H1 { s1 with heap:=h1 }:=I1.kept (t':=s1.toks) kp
 refine ⟨s1.heap.objs.size + 1,[s1.heap.objs.size + 1,s1.heap.objs.size],_,_,H1,rfl,I2,y4t a _ _ (Nat.succ_ne_self _),⟨⟨_,he⟩,hi⟩,fun b hb=>?_,q⟩
 have hb' : s1.heap.objs.size≤b:=by
  rcases ai.mp hb with z | z
  ·rw [z]; exact cn _
  ·have z : b=s1.heap.objs.size:=by simpa using z
   rw [z]; exact ar _
 exact I1.fpOk hb' (I1.hok.fresh hb')
end
noncomputable def z0s (k : Nat) : List D->List D
 | []=>[]
 | d :: r=>.tup [.int (k : Nat),d] :: z0s (k + 1) r
theorem y1q : ∀ {ds : List D} {k i : Nat},(z0s k ds)[i]? = (ds[i]?).map fun d=>.tup [.int ((k + i : Nat) : Int),d]
 | [],_,_=>by simp [z0s]
 | d :: r,k,0=>by simp [z0s]
 | d :: r,k,i + 1=>by
  show (z0s (k + 1) r)[i]? = (r[i]?).map _
  rw [y1q]
  congr 1
  funext d
  congr 3
  omega
theorem z8j : ∀ {ds : List D} {k : Nat},(z0s k ds).length=ds.length
 | [],_=>rfl
 | d :: r,k=>by show (z0s (k + 1) r).length + 1=r.length + 1; rw [z8j]
theorem y1j {K : aa} {H : Hp} {B : Addr->Prop} {a : Addr} {xs : List V} {ds : List D} (hs : ∀ H',Keep K B H H'->SqL K H' a xs) (r : Reps K H B ds xs) : ItD K (Ite K a) H B (z0s 0 ds):=by
 have hl:=r.length
 refine ⟨fun i H' kp hi=>?_,fun i H' kp hi=>?_,fun i H' v H2 kp hy=>?_⟩
 ·rw [z8j,hl] at hi
  exact ⟨xs,xs[i],hs H' kp,ae hi⟩
 ·rw [z8j,hl] at hi
  exact ⟨xs,hs H' kp,hi⟩
 ·obtain ⟨p,x,hp,rfl,rfl,hx⟩:=hy
  have hx:=hx xs (hs H' kp)
  obtain ⟨d,e,rd⟩:=(Reps.keep kp ds r).get' hx
  refine ⟨z0r hp,.tup [.int (i : Nat),d],fun _=>by rw [y1q,e]; simp,?_⟩
  unfold Rep
  exact ⟨p,_,rfl,SqT.of z0o,.cons (by unfold Rep; rfl) (.one (rd.mono (z0r hp)))⟩
noncomputable def y0j : D->Option (List D)
 | .lst ds=>some (z0s 0 ds)
 | .scr ns=>some (z0s 0 (ns.map .int))
 | _=>none
noncomputable def y0t (f : DE) : DS->Option (List D):=fun δ=>(f δ).bind y0j
section
variable {X : Cx}
theorem z5K {elts : List Expr} {x1} {tp p pos : Pos} {l : Expr} {f : DE} (hg : Gl X "enumerate") (hm : X.mg "enumerate" = none) (h : PD X l f) (hs : starEach [l] X.env=[(false,eval l X.env)]:=by rfl) :
  PID X (.Tuple elts x1 tp) (.Call (.Name "enumerate" p) [l] [] pos) (y0t f):=(pi_enum hg hm h hs).imp fun σ H R z_=>by
 obtain ⟨B,δ,ds,hB,S,q,k⟩:=z_
 unfold y0t at q
 cases e : f δ with
 | none=>rw [e] at q; cases q
 | some d=>
  rw [e] at q
  have q' : y0j d=some ds:=q
  refine ⟨B,δ,d,hB,S,e,fun v H1 s1 r1=>?_⟩
  unfold y0j at q'
  split at q'
  ·cases q'
   unfold Rep at r1
   obtain ⟨a,xs,rfl,n,h,r⟩:=r1
   refine ⟨a,rfl,⟨xs,SqL.of h⟩,k _ H1 s1 fun C hC=>?_⟩
   have na : ¬ (B a∨C a):=fun z=>z.elim n fun z=>by rw [hC a z] at h; cases h
   exact y1j (xs:=xs) (fun H' kp=>SqL.of (kp.sl a xs na h)) (Reps.wide hC _ r)
  ·cases q'
   unfold Rep at r1
   obtain ⟨a,rfl,h⟩:=r1
   exact ⟨a,rfl,⟨_,h.sq⟩,k _ H1 s1 fun C hC=>y1j (fun H' kp=>(kp.sf a _ h).sq) (z1M _)⟩
  ·cases q'
noncomputable def two (h : D->D->Option (Option D)) : D->Option (Option D)
 | .tup [a,b]=>h a b
 | _=>none
noncomputable def z4c (fc : DS->Option Bool) (fe : DE) (δ : DS) : D->D->Option (Option D):=fun a b=>(fc (δ ++ [some a,some b])).bind fun k=>if k=true then (fe (δ ++ [some a,some b])).map some else some none
noncomputable def z5v (fi : DS->Option (List D)) (fc : DS->Option Bool) (fe : DE) : DS->Option (List D):=fun δ=>(fi δ).bind fun xs=>if xs.length≤sizeLine then z1U (two (z4c fc fe δ)) xs else none
theorem y7i {h : D->D->Option (Option D)} {d : D} {o : Option D} (e : two h d=some o) : ∃ a b,d = .tup [a,b]∧h a b=some o:=by
 unfold two at e
 split at e
 ·exact ⟨_,_,rfl,e⟩
 ·cases e
theorem z9g {v1 v2 w1 w2 : Option V} : ∀ {σ : St},((σ ++ [w1,w2]).set σ.length v1).set (σ.length + 1) v2=σ ++ [v1,v2]
 | []=>rfl
 | x :: r=>congrArg (x :: ·) (z9g (σ:=r))
theorem RepS.snoc2 {K : aa} {H : Hp} {B : Addr->Prop} {σ : St} {δ : DS} {d e : D} {v w : V} (S : RepS K H B σ δ) (r : Rep K H B d v) (r' : Rep K H B e w) : RepS K H B (σ ++ [some v,some w]) (δ ++ [some d,some e]):=by
 have:=(S.snoc r).snoc r'
 rw [aZ,aZ] at this
 exact this
variable {N' : List Str} {sc : Scope} {iter elt : Expr} {ifs : List Expr} {n : Nat} {x y : Str} {px py tp pos : Pos} {x1 : Nat} {fi : DS->Option (List D)} {fc : DS->Option Bool} {fe : DE}
noncomputable def gTwo (K : aa) (n : Nat) : TG:=gTup K 2 (y4c (z2A n) (y4c (z2A (n + 1)) gNil))
theorem y3o {σ : St} {H : Hp} {Q : VK} (hσ : σ.length=n) (hq : tF X.K (z5v fi fc fe) σ H Q) : y5F (tI X.K fi) (gTwo X.K n) (tT X.K fc) (tD X.K fe) 2 σ H Q:=by
 obtain ⟨B,δ,ds,hB,Sδ,q,k⟩:=hq
 unfold z5v at q
 cases e1 : fi δ with
 | none=>rw [e1] at q; cases q
 | some xs=>
 rw [e1] at q
 have q1 : (if xs.length≤sizeLine then z1U (two (z4c fc fe δ)) xs else none)=some ds:=q
 split at q1
 case isFalse=>cases q1
 case isTrue hsz=>
 refine ⟨B,δ,xs,hB,Sδ,e1,fun J H1 s1 itw=>fun Da hD=>?_⟩
 have hD0 : H Da=none:=s1.free hD
 have it:=itw (fun a=>a=Da) fun a ha=>by rw [ha]; exact hD
 have Sw : RepS X.K H1 (fun a=>B a∨a=Da) σ δ:=(Sδ.mono s1).wide fun a ha=>by rw [ha]; exact hD
 obtain ⟨I,hI⟩ : ∃ I : Nat->Nat->St->Hp->Prop,I=fun i m σ' H'=>m=xs.length - i∧i≤xs.length∧(∃ w w',σ'=σ ++ [w,w'])∧Same H1 H'∧∃ ys dn rs,H' Da=some (.lst ys)∧Reps X.K H' (fun a=>B a∨a=Da) dn ys∧ds=dn ++ rs∧dn.length≤i ∧
   z1U (two (z4c fc fe δ)) (xs.drop i)=some rs:=⟨_,rfl⟩
 refine ⟨I,⟨xs.length,by rw [hI]; exact ⟨by simp,bA _,⟨none,none,rfl⟩,z0r hD,[],[],ds,z0o,.nil,rfl,ar _,q1⟩⟩,?_⟩
 intro i m σ' H' hh
 rw [hI] at hh
 obtain ⟨rfl,hi',⟨w,w',rfl⟩,sm,ys,dn,rs,hys,rys,hds,hln,hrs⟩:=hh
 have kp : Keep X.K (fun a=>B a∨a=Da) H1 H':=.same sm
 by_cases hlt : i < xs.length
 ·refine .inr ⟨it.go i H' kp hlt,fun σ'' H''=>I (i + 1) (xs.length - (i + 1)) σ'' H'',fun σ'' H'' h=>⟨xs.length - (i + 1),by omega,h⟩,fun xv H2 hy=>?_⟩
  obtain ⟨s2,d,hd,rd⟩:=it.yld i H' xv H2 kp hy
  have hdi:=hd hlt
  have hx : xs.drop i=d :: xs.drop (i + 1):=by
   obtain ⟨hl,e⟩:=a7.mp hdi
   rw [bj hl,e]
  rw [hx] at hrs
  obtain ⟨o,rs',e2,e3,e4⟩:=z5f hrs
  obtain ⟨da,db,ed,e2b⟩:=y7i e2
  subst ed
  unfold Rep at rd
  obtain ⟨p,vs,rfl,hsq,rvs⟩:=rd
  unfold Reps at rvs
  obtain ⟨va,r1,rfl,ra,rvs⟩:=rvs
  unfold Reps at rvs
  obtain ⟨vb,r2,rfl,rb,rvs⟩:=rvs
  unfold Reps at rvs
  subst rvs
  refine ⟨p,[va,vb],rfl,hsq,rfl,va,[vb],rfl,vb,[],rfl,rfl,?_⟩
  rw [← hσ,z9g]
  have hB1 : InB (fun a=>B a∨a=Da) H2:=fun a ha=>ha.elim (fun z=>(((hB.mono s1).mono sm).mono s2) a z) fun z=>⟨_,s2 _ _ (z ▸ hys)⟩
  have S2 : RepS X.K H2 (fun a=>B a∨a=Da) (σ ++ [some va,some vb]) (δ ++ [some da,some db]):=((Sw.mono sm).mono s2).snoc2 ra rb
  have hl2 : ys.length < sizeLine:=by
   have:=rys.length
   omega
  unfold z4c at e2b
  cases ec : fc (δ ++ [some da,some db]) with
  | none=>rw [ec] at e2b; cases e2b
  | some kk=>
   rw [ec] at e2b
   have e2' : (if kk=true then (fe (δ ++ [some da,some db])).map some else some none)=some o:=e2b
   refine ⟨_,δ ++ [some da,some db],kk,hB1,S2,ec,fun H3 s3=>?_⟩
   cases kk with
   | false=>
    rw [if_neg ao] at e2'
    rw [if_neg ao]
    cases e2'
    rw [hI]
    exact ⟨rfl,hlt,⟨_,_,rfl⟩,(sm.trans s2).trans s3,ys,dn,rs',s3 _ _ (s2 _ _ hys),(rys.mono s2).mono s3,by rw [hds,e4]; rfl,c9 hln,e3⟩
   | true=>
    rw [if_pos rfl] at e2'
    rw [if_pos rfl]
    cases ey : fe (δ ++ [some da,some db]) with
    | none=>rw [ey] at e2'; cases e2'
    | some y=>
     rw [ey] at e2'
     cases e2'
     refine ⟨_,δ ++ [some da,some db],y,hB1.mono s3,S2.mono s3,ey,fun yv H5 s5 r5=>⟨ys,s5 _ _ (s3 _ _ (s2 _ _ hys)),hl2,?_⟩⟩
     have hu : H5 Da=some (.lst ys):=s5 _ _ (s3 _ _ (s2 _ _ hys))
     rw [hI]
     refine ⟨rfl,hlt,⟨_,_,rfl⟩,fun b u hb=>?_,ys ++ [yv],dn ++ [y],rs',z0o,?_,by rw [hds,e4,aZ]; rfl,by rw [aK]; simp; omega,e3⟩
     ·rw [z0t (z1q hb hD)]
      exact s5 _ _ (s3 _ _ (s2 _ _ (sm _ _ hb)))
     ·exact Reps.keep (.upd (.inr rfl) (by rw [hu]; exact trivial)) _ (((rys.mono s2).mono s3 |>.mono s5).snoc r5)
 ·have e : i=xs.length:=by omega
  subst e
  refine .inl ⟨it.stop _ H' kp (ar _),?_⟩
  rw [bV] at hrs
  cases hrs
  rw [aL] at hds
  subst hds
  exact k Da ys H' (s1.trans sm) hD0 hys (rys.anti fun a z=>.inl z)
theorem z8c (hc : X.calm=true) (S : CompScope X.N X.env.scope.names N' 2 sc) (hn : n=X.N.length) (hi : PID X (.Tuple [.Name x px,.Name y py] x1 tp) iter fi)
  (hg : ∀ s H fp pins E,PG (z0I X N' sc s H fp pins E) (.Tuple [.Name x px,.Name y py] x1 tp) (gTwo X.K n)) (ht : ∀ s H fp pins E,y5M (z0I X N' sc s H fp pins E) ifs (tT X.K fc)) (he : ∀ s H fp pins E,PE (z0I X N' sc s H fp pins E) elt (tD X.K fe))
  (hs : ∀ x,foldedSetIterable iter X.env x=pure x:=by intro _; rfl) : PF X (.ListComp elt [⟨.Tuple [.Name x px,.Name y py] x1 tp,iter,ifs,0⟩] sc pos) (z5v fi fc fe):=by
 intro pins s σ H Q I hq
 exact y0p hc S hi ⟨hg,ht,he⟩ hs pins s σ H Q I (y3o (by rw [hn,I.len]) hq)
theorem y5j {X : Cx} {n : Nat} {x y : Str} {px py tp : Pos} {x1} (hc : X.calm=true) (h1 : PG X (.Name x px) (z2A n)) (h2 : PG X (.Name y py) (z2A (n + 1)))
  (hs : (assignEach [.Name x px,.Name y py] X.env).map (·.2)=assign (.Name x px) X.env :: (assignEach [.Name y py] X.env).map (·.2):=by rfl) (hs2 : (assignEach [.Name y py] X.env).map (·.2)=assign (.Name y py) X.env :: (assignEach [] X.env).map (·.2):=by rfl)
  (hn : (assignEach [.Name x px,.Name y py] X.env).length=2:=by rfl) (hst : (assignEach [.Name x px,.Name y py] X.env).findIdx? (·.1)=none:=by rfl) : PG X (.Tuple [.Name x px,.Name y py] x1 tp) (gTwo X.K n):=
 y8G hc (z5E h1 (z5E h2 y4W hs2) hs) hn hst
end
end L2
namespace L2
open PySem PySem.Spec PyProof.Rows
noncomputable def z9Z : D->Option Key
 | .int n=>some (.inl n)
 | .str x=>some (.inr x)
 | _=>none
theorem y0d {K : aa} {H : Hp} {B : Addr->Prop} {d : D} {k : Key} {v : V} (e : z9Z d=some k) (r : Rep K H B d v) : v=kV k:=by
 unfold z9Z at e
 split at e
 ·cases e; unfold Rep at r; exact r
 ·cases e; unfold Rep at r; exact r
 ·cases e
noncomputable def setK (ks : List Key) (ds : List D) (k : Key) (d : D) : List D:=match ks,ds with
 | k' :: ks,e :: ds=>(if k'=k then d else e) :: setK ks ds k d
 | _,_=>[]
noncomputable def y0m (ks : List Key) (k : Key) : Bool:=ks.any fun k'=>decide (k'=k)
noncomputable def z9J (ks : List Key) (k : Key) : List Key:=if y0m ks k=true then ks else ks ++ [k]
noncomputable def z8T (ks : List Key) (ds : List D) (k : Key) (d : D) : List D:=if y0m ks k=true then setK ks ds k d else ds ++ [d]
theorem z9W {k : Key} {kvs : List (Key × V)} {ks : List Key} (e : kvs.map (·.1)=ks) : (kvs.any fun kv=>decide (kv.1=k))=y0m ks k:=by
 subst e
 unfold y0m
 rw [ca]
 rfl
theorem y0Z {K : aa} {H : Hp} {k : Key} {d : D} {v : V} (td : Tree K H d v []) : ∀ {kvs : List (Key × V)} {ds : List D},Trees K H ds (kvs.map (·.2)) []->Trees K H (setK (kvs.map (·.1)) ds k d) ((kvs.map fun kv=>if kv.1=k then (kv.1,v) else kv).map (·.2)) []
 | [],ds,t=>by
  cases ds with
  | nil=>exact .nil
  | cons e ds=>unfold Trees at t; obtain ⟨_,_,_,_,z,_⟩:=t; cases z
 | p :: r,[],t=>by obtain ⟨z,_⟩:=t; cases z
 | p :: r,e :: ds,t=>by
  unfold Trees at t
  obtain ⟨x,xs,B,C,e1,t1,t2,e2⟩:=t
  cases e1
  obtain ⟨rfl,rfl⟩:=List.append_eq_nil_iff.mp e2.symm
  have ih:=y0Z (k:=k) td (kvs:=r) t2
  rw [aT,aT,aT]
  unfold setK Trees
  refine ⟨_,_,[],[],rfl,?_,ih,rfl⟩
  by_cases h : p.1=k
  ·rw [if_pos h,if_pos h]; exact td
  ·rw [if_neg h,if_neg h]; exact t1
theorem y6a {k : Key} {v : V} {kvs : List (Key × V)} : (z6F kvs k v).map (·.1)=z9J (kvs.map (·.1)) k:=by
 unfold z6F z9J
 rw [z9W (k:=k) (kvs:=kvs) rfl]
 by_cases h : y0m (kvs.map (·.1)) k=true
 ·rw [if_pos h,if_pos h,aR]
  apply cQ
  intro p _
  show (if p.1=k then (p.1,v) else p).1=p.1
  split <;> rfl
 ·rw [if_neg h,if_neg h,a6]
  rfl
theorem y6y {K : aa} {H : Hp} {k : Key} {d : D} {v : V} {kvs : List (Key × V)} {ds : List D} (td : Tree K H d v []) (t : Trees K H ds (kvs.map (·.2)) []) : Trees K H (z8T (kvs.map (·.1)) ds k d) ((z6F kvs k v).map (·.2)) []:=by
 unfold z6F z8T
 rw [z9W (k:=k) (kvs:=kvs) rfl]
 by_cases h : y0m (kvs.map (·.1)) k=true
 ·rw [if_pos h,if_pos h]
  exact y0Z td t
 ·rw [if_neg h,if_neg h,a6]
  exact t.snoc td
theorem y1C {k : Key} {kvs : List (Key × V)} : (y1m kvs k).isSome=y0m (kvs.map (·.1)) k:=by rw [← z8B]; exact z9W rfl
noncomputable def inK : D->D->Option Bool:=fun x y=>match y with
 | .dct ks _=>(z9Z x).map fun k=>y0m ks k
 | _=>none
noncomputable def y7k (f g : DE) : DS->Option Bool:=fun δ=>(f δ).bind fun x=>(g δ).bind fun y=>inK x y
noncomputable def y7g (f g : DE) : DS->Option Bool:=fun δ=>(y7k f g δ).map (!·)
section
variable {X : Cx} {a b o i value : Expr} {f g : DE} {pos pos' : Pos}
theorem y1r {δ : DS} {c : Bool} (h : y7k f g δ=some c) : ∃ x k ks ds,f δ=some x∧z9Z x=some k∧g δ=some (.dct ks ds)∧c=y0m ks k:=by
 unfold y7k at h
 cases e1 : f δ with
 | none=>rw [e1] at h; cases h
 | some x=>
  rw [e1] at h
  cases e2 : g δ with
  | none=>rw [e2] at h; cases h
  | some y=>
   rw [e2] at h
   have h : inK x y=some c:=h
   unfold inK at h
   split at h
   ·cases e3 : z9Z x with
    | none=>rw [e3] at h; cases h
    | some k=>rw [e3] at h; cases h; exact ⟨x,k,_,_,rfl,e3,rfl,rfl⟩
   ·cases h
theorem pt_din (hu : X.A.units + 64 < cLine) (ha : PD X a f) (hb : PD X b g) (hm : behindInMarks .In b=false:=by rfl) : PTD X (.Compare a [.In] [b] pos) (y7k f g):=
 (y8y (pc_din (by omega) ha hb) hm).imp fun σ H Q z_=>by
  obtain ⟨B,δ,c,hB,S,q,k⟩:=z_
  obtain ⟨x,ky,ks,ds,e1,e2,e3,rfl⟩:=y1r q
  refine ⟨B,δ,x,hB,S,e1,fun v H1 s1 r1=>⟨B,δ,_,hB.mono s1,S.mono s1,e3,fun w H2 s2 r2=>?_⟩⟩
  unfold Rep at r2
  obtain ⟨p,kvs,rfl,n,hp,ek,rs⟩:=r2
  have ev:=y0d e2 r1
  subst ev
  refine ⟨p,y1m kvs ky,rfl,DGet.k hp,_,rfl,?_⟩
  rw [y1C,ek]
  exact k H2 (s1.trans s2)
theorem pt_dnin (hu : X.A.units + 64 < cLine) (ha : PD X a f) (hb : PD X b g) (hm : behindInMarks .NotIn b=false:=by rfl) : PTD X (.Compare a [.NotIn] [b] pos) (y7g f g):=
 (y8y (y5A (by omega) ha hb) hm).imp fun σ H Q z_=>by
  obtain ⟨B,δ,c,hB,S,q,k⟩:=z_
  unfold y7g at q
  cases e0 : y7k f g δ with
  | none=>rw [e0] at q; cases q
  | some c0=>
  rw [e0] at q
  cases q
  obtain ⟨x,ky,ks,ds,e1,e2,e3,rfl⟩:=y1r e0
  refine ⟨B,δ,x,hB,S,e1,fun v H1 s1 r1=>⟨B,δ,_,hB.mono s1,S.mono s1,e3,fun w H2 s2 r2=>?_⟩⟩
  unfold Rep at r2
  obtain ⟨p,kvs,rfl,n,hp,ek,rs⟩:=r2
  have ev:=y0d e2 r1
  subst ev
  refine ⟨p,y1m kvs ky,rfl,DGet.k hp,_,rfl,?_⟩
  rw [y1C,ek]
  exact k H2 (s1.trans s2)
theorem pn_dnew : PN X (.Dict [] [] pos) (dC (.dct [] [])):=pe_dnewK.imp fun σ H Q z_=>by
 obtain ⟨δ,d,S,q,k⟩:=z_
 cases q
 intro p hp
 refine k _ _ [p] (z0r hp) ?_ (aC.mpr ⟨fun z=>(nomatch z),bf⟩) fun a ha=>?_
 ·unfold Tree
  exact ⟨p,[],[],rfl,z0o,rfl,.nil,rfl⟩
 ·rw [am.mp ha]; exact hp
variable {H0 : Hp} {B0 : Addr->Prop} {fr : Bool} {RX : XR} {x : Str} {px : Pos} {ke e : Expr}
noncomputable def dput (i : Nat) (fk fv : DE) : SS->Option Out:=fun δ=>(fv (z0u δ)).bind fun d=>if d.imm=true then (fk (z0u δ)).bind fun dk=>(match z9Z dk,δ[i]? with
 | some k,some (some (.ow (.dct ks ds)))=>if z2l ds=true∧ks.length < sizeLine then some (.nx ((z0y i δ).set i (some (.ow (.dct (z9J ks k) (z8T ks ds k d)))))) else none
 | _,_=>none) else none
theorem y3z {K : aa} {H : Hp} {ds : List D} {xs : List V} {A : List Addr} (t : Trees K H ds xs A) (h : z2l ds=true) : Trees K H ds xs []:=Reps.immTree (B:=fun _=>False) ds h (t.rep ds fun _ _ z=>z)
theorem y8o {i : Nat} {fk fv : DE} (hu : X.A.units + 64 < cLine) (hx : PE X (.Name x px) (z7x i)) (hk : PD X ke fk) (hv : PD X e fv)
  (hs : swapsWith e (some (.Subscript (.Name x px) ke pos')) pos.line X.env=pure false:=by rfl) :
  PS X (.Assign [.Subscript (.Name x px) ke pos'] e pos) (tS X.K H0 B0 fr RX (dput i fk fv)):=
 PS.imp (ps_dput (by omega) hx hk hv hs) fun D σ H z_=>by
  obtain ⟨δ,R,o,rs,q,kk⟩:=z_
  unfold dput at q
  cases e1 : fv (z0u δ) with
  | none=>rw [e1] at q; cases q
  | some d=>
  rw [e1,ax] at q
  split at q
  case isFalse=>cases q
  case isTrue hi=>
  cases e2 : fk (z0u δ) with
  | none=>rw [e2] at q; cases q
  | some dk=>
  rw [e2,ax] at q
  split at q
  case h_2=>cases q
  case h_1 k ks ds e3 ei=>
  split at q
  case isFalse=>cases q
  case isTrue hc=>
  cases q
  obtain ⟨v0,ev,t0,nd⟩:=rs.ow i _ ei
  unfold Tree at t0
  obtain ⟨a,kvs,A,rfl,ha,ek,ts,eR⟩:=t0
  have ts:=y3z ts hc.1
  refine ⟨noB,z0u δ,d,.no,rs.all,e1,fun v H1 s1 r1=>⟨.ref a,ev,noB,z0u δ,dk,.no,rs.all.mono s1,e2,fun kv H2 s2 r2=>?_⟩⟩
  have ekv:=y0d e3 r2
  subst ekv
  subst ek
  have ha2 : H2 a=some (.dK kvs):=s2 _ _ (s1 _ _ ha)
  refine ⟨a,_,rfl,DPut.k ha2 (by rw [← aq (f:=(·.1))]; exact hc.2),?_⟩
  have haR : a∈R i:=by rw [eR]; exact ah
  have mu : Mut (H2 a):=by rw [ha2]; exact trivial
  have td : Tree X.K H2 d v []:=(r1.immTree d hi).mono s2
  have tp:=y6y (k:=k) td (ts.mono (s1.trans s2))
  have P:=rs.rewrite (d':=.dct (z9J (kvs.map (·.1)) k) (z8T (kvs.map (·.1)) ds k d)) (a:=a) (o:=.dK (z6F kvs k v)) (A':=[a]) (s1.trans s2) ei ev haR (by
   unfold Tree
   exact ⟨a,z6F kvs k v,[],rfl,z0o,y6a,Trees.keep (Keep.upd (K:=X.K) (B:=fun x=>x=a) rfl mu).i _ tp fun b hb=>(nomatch hb),rfl⟩) (aC.mpr ⟨fun z=>(nomatch z),bf⟩) fun b hb=>by
    rw [am.mp hb]; exact .inl haR
  exact kk σ _ _ P.1 P.2
end
end L2
namespace HT
open PySem PySem.Spec PyProof.Rows
section
variable {prog : Program} {w : World} {A : Around} {E : Value->Shared->Prop} {s : Shared}
end
end HT
namespace L2
open PySem PySem.Spec PyProof.Rows
section
variable {X : Cx} {e st : Expr} {te : TE} {tk : TO} {pos p2 : Pos}
variable {f g : DE}
variable {a b : Expr}
noncomputable def catLs : D->D->Option (List D)
 | .lst ds,.lst es=>if ds.length + es.length≤sizeLine then some (ds ++ es) else none
 | _,_=>none
noncomputable def dCat (f g : DE) : DS->Option (List D):=fun δ=>(f δ).bind fun x=>(g δ).bind fun y=>catLs x y
theorem y3c (ha : PD X a f) (hb : PD X b g) : PF X (.BinOp a .Add b pos) (dCat f g):=(pe_op op_cat ha hb).imp fun σ H Q z_=>by
 obtain ⟨B,δ,ds,hB,S,q,k⟩:=z_
 unfold dCat at q
 cases e1 : f δ with
 | none=>rw [e1] at q; cases q
 | some x=>
 rw [e1,ax] at q
 cases e2 : g δ with
 | none=>rw [e2] at q; cases q
 | some y=>
 rw [e2,ax] at q
 unfold catLs at q
 split at q
 case h_2=>cases q
 case h_1 xs ys=>
 split at q
 case isFalse=>cases q
 case isTrue hl=>
 cases q
 refine ⟨B,δ,_,hB,S,e1,fun v H1 s1 r1=>⟨B,δ,_,hB.mono s1,S.mono s1,e2,fun v2 H2 s2 r2=>?_⟩⟩
 unfold Rep at r1 r2
 obtain ⟨p1,vs,rfl,n1,h1,rs1⟩:=r1
 obtain ⟨p2,ws,rfl,n2,h2,rs2⟩:=r2
 refine ⟨p1,p2,vs,ws,rfl,rfl,s2 _ _ h1,h2,by rw [← rs1.length,← rs2.length]; exact hl,fun p hp=>?_⟩
 exact k p _ _ ((s1.trans s2).trans (z0r hp)) ((s1.trans s2).free hp) z0o (((rs1.mono s2).append rs2).mono (z0r hp))
noncomputable def maxF : List D->Option D
 | [.int i,.int j]=>some (.int (if j > i then j else i))
 | _=>none
noncomputable def minF : List D->Option D
 | [.int i,.int j]=>some (.int (if j < i then j else i))
 | _=>none
theorem oa_min {K : aa} : OpA K (fun xs H Q=>∃ i j,xs=[.int i,.int j]∧Q (.int (if j < i then j else i)) H) minF:=by
 intro H B ds d vs Q hB hr q k
 unfold minF at q
 split at q
 case h_2=>cases q
 case h_1 i j=>
 cases q
 unfold Reps at hr
 obtain ⟨x,r,rfl,hx,hr⟩:=hr
 obtain ⟨y,rfl,hy⟩:=z4I hr
 unfold Rep at hx hy
 subst hx hy
 exact ⟨i,j,rfl,k _ H (.refl H) (by unfold Rep; rfl)⟩
variable {p : Pos}
theorem y4J (hc : X.calm=true) (hg : Gl X "min") (hm : X.mg "min" = none) (ha : PD X a f) (hb : PD X b g) (he : starEach [a,b] X.env=(false,eval a X.env) :: starEach [b] X.env:=by rfl) (he2 : starEach [b] X.env=[(false,eval b X.env)]:=by rfl) (hpl : (backTo pos (starEach [b] X.env)).any (·.1)=false:=by rfl) : PD X (.Call (.Name "min" p) [a,b] [] pos) (z0j minF [f,g]):=
 z5D (y4L hc) oa_min hg hm PyProof.Rows.Boot.«min» (z0a ha (z0a hb z0c he2) he) (by decide) (by decide) he hpl
end
end L2
namespace L2
open PySem PySem.Spec PyProof.Rows
section
variable {X : Cx} {o e : Expr} {apos cpos : Pos}
end
end L2
namespace L2
open PySem PySem.Spec PyProof.Rows
section
variable {X : Cx} {H0 : Hp} {B0 : Addr->Prop} {fr : Bool} {RX : XR} {e : Expr} {pos : Pos} {f : DE}
end
end L2
namespace L2
open PySem PySem.Spec PyProof.Rows
noncomputable def cntR (lo hi c : Int) : Nat:=if lo < hi then ((hi - lo - 1) / c + 1).toNat else 0
noncomputable def Itr3 (lo c : Int) (n : Nat) : It:=⟨fun i _=>i < n,fun i H x H'=>H'=H∧x = .int (lo + (i : Nat) * c),fun i _=>n≤i⟩
theorem y0b {P : Program} {w : World} {K : aa} {tg : Expr} (it : Addr) (lo c : Int) (n : Nat) : Turn P w K tg (Itr3 lo c n) [it] it (fun i h=>IsRangeIter h it (lo + (i : Nat) * c) ((n : Int) - (i : Nat)) c) where
 mem:=by simp
 obj:=fun i h st b hb=>by
  have e : b=it:=by simpa using hb
  subst e
  exact ⟨_,st,fun v z=>by
   have z' : Data.fields _=Data.cell v:=z
   cases z'⟩
 keep:=fun i h h' st k=>k it (by simp) _ st
 item:=by
  intro X hP hw hK hc i pins s σ H E I hf st hg
  subst hP hw hK
  obtain ⟨f0,f1,f2,f3,f4,f5⟩:=hf it (by simp)
  have W:=Walks.range (prog:=X.prog) (w:=X.w) (I.ok.hd hc) it lo c n
  refine W.item i s _ _ hg st fun v h' tk hv st' kk=>?_
  obtain ⟨t,rfl⟩:=hv
  have I1 : Inv X pins σ H { s with heap:=h',toks:=tk }:=I.turned (fun b o hb e=>kk b o (by simpa using hb) e) f0 f1 f3 f4 f5
  exact ⟨_,rfl,y6P (s:={ s with heap:=h',toks:=tk }) (n := "range_iterator") st' rfl rfl (by decide) ⟨.int (lo + (i : Nat) * c),H,I1,⟨t,rfl⟩,⟨rfl,rfl⟩,st',fun b hb=>(hf b hb).1⟩⟩
 done:=by
  intro X hP hw hK hc i pins s σ H E I hf st hg
  subst hP hw hK
  obtain ⟨f0,f1,f2,f3,f4,f5⟩:=hf it (by simp)
  exact wpAny_pyNext_range_end (I.ok.hd hc) st (by have : n≤i:=hg; omega) fun h' eb=>⟨rfl,I.turned (t':=s.toks) (fun b o hb e=>eb b o hb e) f0 f1 f3 f4 f5⟩
 self:=fun _ _ _ _ _ st h=>wpAny_pyIter_rangeiter st h
section
variable {X : Cx} {tg : Expr}
theorem Vals.three : ∀ {x y z : V} {us : List Value},Vals [x,y,z] us->∃ u v w,us=[u,v,w]∧RelV x u∧RelV y v∧RelV z w:=fun h=>by
 cases h with | cons r h=>obtain ⟨_,_,rfl,q,p⟩:=Vals.two h; exact ⟨_,_,_,rfl,r,q,p⟩
noncomputable def y4E (lo c : Int) (n : Nat) : List D:=(ag n).map fun i=>.int (lo + (i : Nat) * c)
theorem y7t {lo c : Int} {n i : Nat} (h : i < n) : (y4E lo c n)[i]? = some (.int (lo + (i : Nat) * c)):=by
 unfold y4E
 rw [aN,cS h]
 rfl
theorem z7Q {lo c : Int} {n : Nat} : (y4E lo c n).length=n:=by simp [y4E]
theorem y6Z {K : aa} {H : Hp} {B : Addr->Prop} {lo c : Int} {n : Nat} : ItD K (Itr3 lo c n) H B (y4E lo c n):=by
 refine ⟨fun i H' _ hi=>?_,fun i H' _ hi=>?_,fun i H' x H2 _ y=>?_⟩
 ·rw [z7Q] at hi; exact hi
 ·rw [z7Q] at hi; exact hi
 ·obtain ⟨e,y⟩:=y
  subst e y
  exact ⟨.refl _,.int (lo + (i : Nat) * c),fun h=>y7t (by rwa [z7Q] at h),rfl⟩
noncomputable def rng3 : Option D->Option D->Option D->Option (List D)
 | some (.int i),some (.int j),some (.int c)=>if -(2 ^ 61)≤i∧i < 2 ^ 61∧-(2 ^ 61)≤j∧j < 2 ^ 61∧0 < c∧c < 2 ^ 30 then some (y4E i c (cntR i j c)) else none
 | _,_,_=>none
end
noncomputable def z4h (c : DS->Option Bool) (b : SS->Option Out) : Nat->SS->Option Out
 | 0,_=>none
 | n + 1,δ=>(c (z0u δ)).bind fun k=>if k=true then (b δ).bind fun o=>(match o with
  | .nx δ'=>z4h c b n δ'
  | .ct δ'=>z4h c b n δ'
  | .bk δ'=>some (.nx δ')
  | .rt d=>some (.rt d)
  | .ex c δ'=>some (.ex c δ')) else some (.nx δ)
section
variable {X : Cx} {H0 : Hp} {B0 : Addr->Prop} {fr : Bool} {RX : XR} {pos : Pos}
theorem y2Z {c : Expr} {body : List Stmt} {fc : DS->Option Bool} {g : SS->Option Out} (n : Nat) (hp : PassesOwn (model X.prog X.w) X.A X.env X.xe) (hc : PTD X c fc) (hb : PSs X body (tS X.K H0 B0 fr RX g)) : PS X (.While c body [] pos) (tS X.K H0 B0 fr RX (z4h fc g n)):=
 PS.imp (y7D hp hc hb) fun D σ H z_=>by
  obtain ⟨δ,R,o,rs,q,k⟩:=z_
  refine ⟨fun m σ' H'=>∃ δ' R',RS X.K H0 B0 H' σ' δ' R'∧Stp R H R' H'∧z4h fc g m δ'=some o,⟨n,δ,R,rs,.refl R H,q⟩,?_⟩
  rintro m σ' H' ⟨δ',R',rs',s',q'⟩
  cases m with
  | zero=>cases q'
  | succ m=>
   unfold z4h at q'
   cases ec : fc (z0u δ') with
   | none=>rw [ec] at q'; cases q'
   | some kk=>
    rw [ec,ax] at q'
    refine ⟨noB,z0u δ',kk,.no,rs'.all,ec,fun H1 s1=>?_⟩
    have rs1:=rs'.mono s1
    have st1 : Stp R H R' H1:=s'.trans (.same s1)
    cases kk with
    | false=>
     rw [if_neg ao] at q'
     cases q'
     exact k σ' H1 R' rs1 st1
    | true=>
     rw [if_pos rfl] at q'
     cases eb : g δ' with
     | none=>rw [eb] at q'; cases q'
     | some ob=>
      rw [eb,ax] at q'
      refine ⟨fun σ2 H2=>∃ δ2 R2,RS X.K H0 B0 H2 σ2 δ2 R2∧Stp R H R2 H2∧z4h fc g m δ2=some o,fun σ2 H2 z=>⟨m,cJ m,z⟩,δ',R',ob,rs1,eb,?_⟩
      cases ob with
      | nx δ2=>exact fun σ3 H3 R3 rs3 s3=>⟨δ2,R3,rs3,st1.trans s3,q'⟩
      | ct δ2=>exact fun σ3 H3 R3 rs3 s3=>⟨δ2,R3,rs3,st1.trans s3,q'⟩
      | bk δ2=>
       cases q'
       exact fun σ3 H3 R3 rs3 s3=>k σ3 H3 R3 rs3 (st1.trans s3)
      | rt d=>
       cases q'
       exact k.back st1
      | ex c δ2=>
       cases q'
       exact k.back st1
variable {a : Expr} {f : DE}
end
end L2
namespace L2
open PySem PySem.Spec PyProof.Rows
section
variable {X : Cx} {a b : Expr} {f g : DE} {pos : Pos}
variable {H0 : Hp} {B0 : Addr->Prop} {fr : Bool} {RX : XR} {x : Str} {px ap cp : Pos} {e : Expr}
noncomputable def y3j (i : Nat) (f : DE) : SS->Option Out:=fun δ=>(f (z0u δ)).bind fun d=>(match d,δ[i]? with
 | .lst es,some (some (.ow (.lst ds)))=>if ds.length + es.length≤sizeLine then some (.nx ((z0y i δ).set i (some (.ow (.lst (ds ++ es)))))) else none
 | _,_=>none)
theorem y2T {i : Nat} (hx : PE X (.Name x px) (z7x i)) (he : PN X e f) (hbase : attributeBase (.Name x px) "extend" X.env (eval (.Name x px) X.env)=eval (.Name x px) X.env:=by rfl)
  (hfew : ((backTo cp (starEach [e] X.env)).all (fun x=>!x.1) && (backToKw cp (keywordEach [] X.env)).all (fun x=>x.1.isSome) && decide ([e].length + ([] : List Keyword).length + (if ([] : List Keyword).isEmpty then 0 else 1) < 30))=true:=by rfl)
  (hline : (ap.endLine == cp.line)=true:=by rfl) (hs : starEach [e] X.env=(false,eval e X.env) :: starEach [] X.env:=by rfl) (hsw : swapsWith (.Call (.Attribute (.Name x px) "extend" ap) [e] [] cp) none pos.line X.env=pure false:=by rfl) :
  PS X (.Expr (.Call (.Attribute (.Name x px) "extend" ap) [e] [] cp) pos) (tS X.K H0 B0 fr RX (y3j i f)):=
 PS.imp (z5c (y3p PySem.F.plainAttrs_list PySem.F.slot_list_extend PySem.F.type_list_extend z9x hx (z1x he pa_nil hs) hbase hfew hline hs rfl) hsw) fun D σ H z_=>by
  obtain ⟨δ,R,o,rs,q,k⟩:=z_
  unfold y3j at q
  cases e1 : f (z0u δ) with
  | none=>rw [e1] at q; cases q
  | some d=>
  rw [e1,ax] at q
  split at q
  case h_2=>cases q
  case h_1 es ds ei=>
  split at q
  case isFalse=>cases q
  case isTrue hl=>
  cases q
  obtain ⟨a,xs,A,ev,ha,ts,eR,nd⟩:=rs.top ei
  refine ⟨.ref a,ev,.inl ⟨rfl,xs,SqL.of ha⟩,z0u δ,_,rs.all,e1,fun y H2 C s2 t2 nC fC=>?_⟩
  unfold Tree at t2
  obtain ⟨b,zs,C',rfl,hb,tz,rfl⟩:=t2
  have nC':=(aC.mp nC).2
  refine ⟨a,b,xs,zs,rfl,rfl,s2 _ _ ha,hb,by rw [← ts.length,← tz.length]; exact hl,?_⟩
  have hAC : (A ++ C').Nodup:=ba.mpr ⟨(aC.mp nd).2,nC',fun p hp c hc z=>by
   subst z
   obtain ⟨u,q,_⟩:=Trees.held ds ts p hp
   rw [fC p (ak _ hc)] at q; cases q⟩
  have P:=rs.put0 s2 ei ev eR nd ((ts.mono s2).append tz) hAC fun p hp=>(aF.mp hp).imp id fun z=>fC p (ak _ z)
  exact k σ _ _ P.1 P.2
end
end L2
namespace L2
open PySem PySem.Spec PyProof.Rows
noncomputable def insS (x : Int) : List Int->List Int
 | []=>[x]
 | y :: r=>if x≤y then x :: y :: r else y :: insS x r
noncomputable def z5F : List Int->List Int
 | []=>[]
 | x :: r=>insS x (z5F r)
theorem z5T (x : Int) : ∀ l : List Int,(insS x l).Perm (x :: l)
 | []=>.refl _
 | y :: r=>by
  unfold insS
  split
  ·exact .refl _
  ·exact ((z5T x r).cons y).trans (.swap x y r)
theorem z5V : ∀ l : List Int,(z5F l).Perm l
 | []=>.refl _
 | x :: r=>(z5T x _).trans ((z5V r).cons x)
theorem z6z {x : Int} : ∀ {l : List Int},l.Pairwise (· ≤ ·)->(insS x l).Pairwise (· ≤ ·)
 | [],_=>by unfold insS; simp
 | y :: r,h=>by
  unfold insS
  split
  ·rename_i hxy
   refine aU.mpr ⟨fun z hz=>?_,h⟩
   rcases ai.mp hz with e | e
   ·omega
   ·have:=(aU.mp h).1 z e
    omega
  ·rename_i hxy
   refine aU.mpr ⟨fun z hz=>?_,z6z (aU.mp h).2⟩
   rcases ai.mp ((z5T x r).mem_iff.mp hz) with e | e
   ·omega
   ·exact (aU.mp h).1 z e
theorem z6g : ∀ l : List Int,(z5F l).Pairwise (· ≤ ·)
 | []=>.nil
 | _ :: r=>z6z (z6g r)
theorem z7j : ∀ {a b : List Int},a.Perm b->a.Pairwise (· ≤ ·)->b.Pairwise (· ≤ ·)->a=b
 | [],b,p,_,_=>(List.nil_perm.mp p).symm
 | x :: a,[],p,_,_=>by have:=p.length_eq; simp at this
 | x :: a,y :: b,p,ha,hb=>by
  obtain ⟨ha1,ha2⟩:=aU.mp ha
  obtain ⟨hb1,hb2⟩:=aU.mp hb
  have hxy : x=y:=by
   have h1 : x∈y :: b:=p.mem_iff.mp ah
   have h2 : y∈x :: a:=p.mem_iff.mpr ah
   rcases ai.mp h1 with e | e
   ·exact e
   ·rcases ai.mp h2 with e' | e'
    ·exact e'.symm
    ·have:=ha1 y e'
     have:=hb1 x e
     omega
  subst hxy
  rw [z7j (List.perm_cons x |>.mp p) ha2 hb2]
theorem z4j {a l : List Int} (p : a.Perm l) (h : a.Pairwise (· ≤ ·)) : a=z5F l:=z7j (p.trans (z5V l).symm) h (z6g l)
section
variable {prog : Program} {w : World} {A : Around} {E : Value->Shared->Prop} {s : Shared}
theorem z7h {l : Addr} {T : String} {o : Obj} {vs : List Value} {n : Nat} {ns : List Int} {Q : Value->Shared->Prop} (hT : T = "list" ∨ T = "tuple") (ho : s.heap.get? l=some o) (hc : o.cls = .type T) (hd : o.data = .seq vs.toArray n) (hI : IntsAre vs ns) (h64 : vs.length < 64)
  (h : ∀ (h1 h' : Heap) (out : List Value) (e : Nat) (ns' : List Int),(∀ b o',s.heap.get? b=some o'->h1.get? b=some o')->(∀ b o',h1.get? b=some o'->h'.get? b=some o')->h'.get? h1.objs.size=some { cls:=.type "list",data:=.seq out.toArray e }->IntsAre out ns'->ns'.Perm ns->ns'.Pairwise (· ≤ ·)->Q (.ref h1.objs.size) { s with heap:=h' }) :
  wpAny (model prog w) A (call (.builtin "sorted") [.ref l]) Q E s:=by
 refine Calls.call_function_entry kind_sorted plain_sorted entry_sorted (args_sorted1 _) ?_
 unfold Builtin.«sorted»
 refine wpAny_bind (m:=checkCount "sorted" 1 1 _) (wpAny_pure ?_)
 refine wpAny_bind (wpAny_collect_seq l hT ho hc hd (fun h1 k1=>?_) (by rw [aE,sizeLine_eq]; omega))
 rw [List.toList_toArray]
 refine wpAny_bind (wpAny_newList ?_)
 have hoL : (h1.push (seqObj "list" vs.toArray 0)).get? h1.objs.size=some (seqObj "list" vs.toArray 0):=Heap.get?_push_size _ rfl
 show wpAny _ _ _ _ _ { s with heap:=h1.push (seqObj "list" vs.toArray 0) }
 refine wpAny_bind (wpAny_holding (wpAny_call_entry slot_list_sort ⟨_,hoL,rfl⟩ entry_list_sort (list_sort_tree hoL hI h64 fun out ns' a1 a2 a3=>⟨_,rfl,?_⟩) (args_list_sort _)))
 obtain ⟨e,he⟩:=sortedHeap_at (out:=out) hoL
 refine wpAny_pure ⟨_,rfl,h h1 _ out.toList e ns' k1 (fun b o' hb=>?_) (by simpa [seqObj] using he) a1 a2 a3⟩
 have hlt : b < h1.objs.size:=Heap.lt_size hb
 rw [sortedHeap_old (aH hlt) (by rw [size_push']; exact bz hlt)]
 exact Heap.get?_push_of_some _ hb
end
section
variable {X : Cx}
theorem y6F : ∀ {ns : List Int} {vs : List Value},IntsAre vs ns->Vals (ns.map V.int) vs
 | _,_,.nil=>.nil
 | _,_,.cons n t r=>.cons ⟨t,rfl⟩ (y6F r)
theorem z8x : ∀ {ns : List Int} {vs : List Value},Vals (ns.map V.int) vs->IntsAre vs ns
 | [],_,.nil=>.nil
 | n :: ns,_,.cons ⟨t,e⟩ r=>by subst e; exact .cons n t (z8x r)
theorem z9n : z5C X (.builtin "sorted") (fun xs H Q=>∃ (p : Addr) (ns : List Int),xs=[.ref p]∧(SqL X.K H p (ns.map V.int)∨SqT X.K H p (ns.map V.int))∧ns.length < 64∧∀ l,H l=none->Q (.ref l) (upd H l (.lst ((z5F ns).map V.int)))):=by
 intro pins s σ H xs us Q I r h
 obtain ⟨p,ns,rfl,hq,h64,q⟩:=h
 obtain ⟨u,rfl,rx⟩:=y2F r
 cases rx
 have fin : ∀ (its : List Value),Vals (ns.map V.int) its->∀ (h1 h' : Heap) (out : List Value) (e : Nat) (ns' : List Int),(∀ b o',s.heap.get? b=some o'->h1.get? b=some o')->(∀ b o',h1.get? b=some o'->h'.get? b=some o')->h'.get? h1.objs.size=some { cls:=.type "list",data:=.seq out.toArray e }->IntsAre out ns'->ns'.Perm ns->ns'.Pairwise (· ≤ ·)->EP X pins σ Q (.ref h1.objs.size) { s with heap:=h' }:=by
  intro its rv h1 h' out e ns' k1 k2 ho hi hp hs
  have es:=z4j hp hs
  subst es
  have I1 : Inv X pins σ H { s with heap:=h1 }:=I.kept (t':=s.toks) k1
  refine ⟨.ref h1.objs.size,_,Inv.laid (s:={ s with heap:=h1 }) (t':=s.toks) I1 k2 (ar _) (show ObjOk X.prog X.w _ h' _ (.lst ((z5F ns).map V.int)) from ⟨?_,out,e,y6F hi,ho⟩),rfl,q _ (I1.hok.fresh (ar _))⟩
  rw [aq,hp.length_eq,sizeLine_eq]
  omega
 rcases hq with hq | hq
 ·obtain ⟨its,rv,⟨o,n,e,c,_,d⟩,hz⟩:=I.list hq
  have hlen : its.length=ns.length:=by have:=rv.length; simpa using this.symm
  exact z7h (.inl rfl) e c d (z8x rv) (by omega) (fin its rv)
 ·obtain ⟨its,o,n,rv,e,c,_,d,hz⟩:=I.tupleO hq
  have hlen : its.length=ns.length:=by have:=rv.length; simpa using this.symm
  exact z7h (.inr rfl) e c d (z8x rv) (by omega) (fin its rv)
noncomputable def z9C : List D->Option (List D)
 | [.lst ds]=>(z3h ds).bind fun ns=>if ns.length < 64 then some ((z5F ns).map .int) else none
 | [.tup ds]=>(z3h ds).bind fun ns=>if ns.length < 64 then some ((z5F ns).map .int) else none
 | _=>none
theorem z9y {ds es : List D} (h : ((z3h ds).bind fun ns=>if ns.length < 64 then some ((z5F ns).map D.int) else none)=some es) : ∃ ns : List Int,ds=ns.map D.int∧ns.length < 64∧es=(z5F ns).map D.int:=by
 cases e : z3h ds with
 | none=>rw [e] at h; cases h
 | some ns=>
  rw [e,ax] at h
  split at h
  ·cases h
   exact ⟨ns,z9h e,by assumption,rfl⟩
  ·cases h
theorem ol_sort {K : aa} : OpL K (fun xs H Q=>∃ (p : Addr) (ns : List Int),xs=[.ref p]∧(SqL K H p (ns.map V.int)∨SqT K H p (ns.map V.int))∧ns.length < 64∧∀ l,H l=none->Q (.ref l) (upd H l (.lst ((z5F ns).map V.int)))) z9C:=by
 intro H B ds es vs Q hB hr q k
 unfold z9C at q
 split at q
 ·obtain ⟨ns,rfl,h64,rfl⟩:=z9y q
  obtain ⟨v,rfl,r⟩:=z4I hr
  unfold Rep at r
  obtain ⟨a,xs,rfl,_,h,rs⟩:=r
  have ex:=z7R rs
  subst ex
  exact ⟨a,ns,rfl,.inl (SqL.of h),h64,fun l hl=>k l _ _ (z0r hl) hl z0o (z1M _)⟩
 ·obtain ⟨ns,rfl,h64,rfl⟩:=z9y q
  obtain ⟨v,rfl,r⟩:=z4I hr
  unfold Rep at r
  obtain ⟨a,xs,rfl,h,rs⟩:=r
  have ex:=z7R rs
  subst ex
  exact ⟨a,ns,rfl,.inr h,h64,fun l hl=>k l _ _ (z0r hl) hl z0o (z1M _)⟩
 ·cases q
variable {e : Expr} {f : DE} {p pos : Pos}
theorem z9d (hg : Gl X "sorted") (hm : X.mg "sorted" = none) (h : PD X e f) (he : starEach [e] X.env=[(false,eval e X.env)]:=by rfl) : PF X (.Call (.Name "sorted" p) [e] [] pos) (z2G z9C [f]):=
 (z5P z9n hg hm boot_sorted (z0a h z0c he) (by decide) (by decide) he rfl).imp (callL ol_sort)
end
end L2
namespace L2
open PySem PySem.Spec PyProof.Rows
section
variable {prog : Program} {w : World} {A : Around} {s : Shared} {R : Result->Shared->Prop}
variable {I : Addr} {fp wr : List Addr} {G : Array GenState->Array GenState->Prop} {n : Nat} {P : Nat->Value->Prop} {St : Nat->Shared->Prop}
end
section
variable {prog : Program} {w : World} {A : Around} {E : Value->Shared->Prop} {s : Shared}
end
section
variable {X : Cx}
end
end L2
namespace L2
open PySem PySem.Spec PyProof.Rows
noncomputable def Thr (h : Heap) (e T : Addr) (cls : Value) : Prop:=∃ oe vs oT ts,h.get? e=some oe∧oe.cls=cls∧oe.data = .fields vs∧vs[1]? = some (.ref T)∧T≠e∧h.get? T=some oT∧oT.data = .fields ts∧ts[3]? = some .none∧oe.dict=none
noncomputable def Thr0 (h : Heap) (e : Addr) (cls : Value) : Prop:=∃ oe vs,h.get? e=some oe∧oe.cls=cls∧oe.data = .fields vs∧vs[1]? = some .none∧oe.dict=none
structure Gone (S ch : List Addr) (e : Addr) (cls : Value) (h h' : Heap) : Prop where
 keep : ∀ b o,b ∉ S->b ∉ ch->h.get? b=some o->h'.get? b=some o
 slot : ∀ b o,b∈S->b ∉ ch->h.get? b=some o->∃ sl,h'.get? b=some { o with slots:=sl }
 there : ∀ b o,h.get? b=some o->∃ o',h'.get? b=some o'
 thr : ∃ T,h.objs.size≤T∧Thr h' e T cls
section
variable {M : Model} {A : Around} {E : Value->Shared->Prop} {s : Shared}
theorem y7B {o : Obj} {f : Array Value->Array Value} (h : o.dict=none) : (Obj.mapFields f o).dict=none:=by
 unfold Obj.mapFields
 split <;> exact h
theorem y1E {base : Heap} {env : Env} {outer : List Env} {L e : Addr} {oe : Obj} {vs : Array Value} {head : Value} {hadNext : Bool} {Q : Unit->Shared->Prop}
  (hfr : A.frames=some (env :: outer)) (hl : s.heap.FunFrames base (env :: outer)) (hf : env.frame=some L)
  (he : s.heap.get? e=some oe) (hd : oe.data = .fields vs) (hsz : 1 < vs.size) (hdn : oe.dict=none)
  (h : ∀ h',Gone (frs (env :: outer)) [e] e oe.cls s.heap h'->Q () { s with heap:=h' }) :
  wpAny M A (do let a ← frameOf env; let pl ← entryPlaceOf L hadNext; let b ← EntryCells.newEntry head a .none (rawInt L) .none pl; setField (.ref e) 1 b) (fun _ s'=>wpAny M A (setFlight (.ref e) none) Q E s') E s:=by
 have hene : e ∉ frs (env :: outer):=fun hm=>by
  obtain ⟨_,o,ho,hnf⟩:=hl.mem hm
  rw [he] at ho; injection ho with ho; subst ho; exact hnf vs hd
 refine wpAny_bind (wpAny_frameOf_fun hfr hl hf fun h₁ hs₁=>?_)
 refine wpAny_bind (wpAny_entryPlaceOf fun pl hpl=>?_)
 unfold EntryCells.newEntry newFields
 refine wpAny_bind (wpAny_newObj_type ?_ (hpl.sizeOk5 _ _ _ _ _))
 have he₁ : h₁.get? e=some oe:=(hs₁.2.1 e hene).trans he
 generalize hob : ({ cls:=.type "traceback",dict:=none,data:=.fields ([head,.ref L,.none,rawInt L,.none] ++ (if pl.isEmpty then aj 6 Value.none else pl)).toArray } : Obj)=ob
 have hobd : ob.data = .fields ([head,.ref L,.none,rawInt L,.none] ++ (if pl.isEmpty then aj 6 Value.none else pl)).toArray:=by rw [← hob]
 have hobf : ob.isFreed=false:=by rw [← hob]; rfl
 have he₂:=Heap.get?_push_of_some (h:=h₁) ob he₁
 refine wpAny_setField he₂ hd hsz ?_
 have hTe : h₁.objs.size≠e:=cz (Heap.lt_size he₁)
 have hd₃:=Obj.data_mapFields hd (·.setIfInBounds 1 (Value.ref h₁.objs.size))
 have he₃:=Heap.get?_update_self (Obj.mapFields (·.setIfInBounds 1 (Value.ref h₁.objs.size))) he₂ (Obj.isFreed_of_fields hd₃)
 have hT₃:=(Heap.get?_update_other (h₁.push ob) (Obj.mapFields (·.setIfInBounds 1 (Value.ref h₁.objs.size))) (Ne.symm hTe)).trans (Heap.get?_push_size h₁ hobf)
 unfold setFlight
 refine wpAny_bind (wpAny_field he₃ hd₃ (x:=.ref h₁.objs.size) (by simp [hsz]) ?_)
 rw [if_pos (show (Value.ref h₁.objs.size != Value.none)=true from by simp)]
 refine wpAny_setField hT₃ hobd (by simp only [aE,aK,a8,dv] <;> omega) (h _ ?_)
 have keep : ∀ b o,b≠e->h₁.get? b=some o →
   (((h₁.push ob).update e (Obj.mapFields (·.setIfInBounds 1 (Value.ref h₁.objs.size)))).update h₁.objs.size (Obj.mapFields (·.setIfInBounds 3 ((none : Option Addr).elim Value.none fun f=>rawInt f)))).get? b=some o:=fun b o hbe hb=>by
  have hbT : h₁.objs.size≠b:=cz (Heap.lt_size hb)
  rw [Heap.get?_update_other _ _ hbT,Heap.get?_update_other _ _ (Ne.symm hbe)]
  exact Heap.get?_push_of_some _ hb
 have heF : (((h₁.push ob).update e (Obj.mapFields (·.setIfInBounds 1 (Value.ref h₁.objs.size)))).update h₁.objs.size (Obj.mapFields (·.setIfInBounds 3 ((none : Option Addr).elim Value.none fun f=>rawInt f)))).get? e=some (Obj.mapFields (·.setIfInBounds 1 (Value.ref h₁.objs.size)) oe):=by
  rw [Heap.get?_update_other _ _ hTe]; exact he₃
 refine ⟨fun b o hb hc e1=>?_,fun b o hb hc e1=>?_,fun b o e1=>?_,h₁.objs.size,?_,?_⟩
 ·exact keep b o (fun z=>hc (by simp [z])) ((hs₁.2.1 b hb).trans e1)
 ·obtain ⟨sl,e2⟩:=hs₁.2.2 b o e1
  exact ⟨sl,keep b _ (fun z=>hc (by simp [z])) e2⟩
 ·by_cases hb : b=e
  ·exact ⟨Obj.mapFields (·.setIfInBounds 1 (Value.ref h₁.objs.size)) oe,by rw [hb]; exact heF⟩
  ·obtain ⟨sl,e2⟩:=hs₁.2.2 b o e1
   exact ⟨_,keep b _ hb e2⟩
 ·rw [hs₁.1]
  exact ar _
 ·exact ⟨_,_,_,_,heF,Obj.cls_mapFields _ _,hd₃,by simp [hsz],hTe,Heap.get?_update_self _ hT₃ (Obj.isFreed_of_fields (Obj.data_mapFields hobd _)),Obj.data_mapFields hobd _,by first | (simp; done) | (rcases hpl with rfl | ⟨_,_,_,_,_,_,_,rfl⟩ <;> simp),y7B hdn⟩
theorem y2H {base : Heap} {env : Env} {outer : List Env} {L e : Addr} {cls : Value} {Q : Unit->Shared->Prop}
  (hfr : A.frames=some (env :: outer)) (hl : s.heap.FunFrames base (env :: outer)) (hf : env.frame=some L) (ht : Thr0 s.heap e cls)
  (h : ∀ h',Gone (frs (env :: outer)) [e] e cls s.heap h'->Q () { s with heap:=h' }) : wpAny M A (noteFrame (.ref e) env) (fun _ s'=>wpAny M A (setFlight (.ref e) none) Q E s') E s:=by
 obtain ⟨oe,vs,he,rfl,hd,h1,hdn⟩:=ht
 unfold noteFrame
 simp only [hf]
 refine wpAny_bind (wpAny_field he hd h1 ?_)
 rw [if_neg (by decide)]
 exact y1E hfr hl hf he hd (cA.mp h1).1 hdn h
theorem y3Q {base : Heap} {env : Env} {outer : List Env} {L e T : Addr} {cls : Value} {Q : Unit->Shared->Prop}
  (hfr : A.frames=some (env :: outer)) (hl : s.heap.FunFrames base (env :: outer)) (hf : env.frame=some L) (ht : Thr s.heap e T cls)
  (h : ∀ h',Gone (frs (env :: outer)) [e,T] e cls s.heap h'->Q () { s with heap:=h' }) : wpAny M A (noteFrame (.ref e) env) (fun _ s'=>wpAny M A (setFlight (.ref e) none) Q E s') E s:=by
 obtain ⟨oe,vs,oT,ts,he,rfl,hd,h1,hTe,hT,hdT,h3,hdn⟩:=ht
 unfold noteFrame
 simp only [hf]
 refine wpAny_bind (wpAny_field he hd h1 ?_)
 rw [if_pos (show (Value.ref T != Value.none)=true from by simp)]
 refine wpAny_bind (wpAny_field hT hdT h3 ?_)
 rw [if_neg (show ¬ ((Value.none == rawInt L)=true) from by simp [rawInt])]
 refine wpAny_bind (wpAny_setField hT hdT (cA.mp h3).1 ?_)
 have other : ∀ b,b≠T->(s.heap.update T (Obj.mapFields (·.setIfInBounds 3 Value.none))).get? b=s.heap.get? b:=fun b hb=>Heap.get?_update_other _ _ (Ne.symm hb)
 have noRecord : ∀ b o,s.heap.get? b=some o->(∀ vs,o.data≠.fields vs)->b≠T:=fun b o hb hnf q=>by
  rw [q,hT] at hb; injection hb with hb; subst hb; exact hnf ts hdT
 refine y1E hfr (hl.of_keeps fun b o hb hnf=>⟨o,(other b (noRecord b o hb hnf)).trans hb,rfl⟩) hf ((other e (Ne.symm hTe)).trans he) hd (cA.mp h1).1 hdn fun h' G=>h h' ?_
 refine ⟨fun b o hb hc e1=>G.keep b o hb (fun z=>hc (ai.mpr (.inl (am.mp z)))) ((other b fun z=>hc (by simp [z])).trans e1),fun b o hb hc e1=>G.slot b o hb (fun z=>hc (ai.mpr (.inl (am.mp z)))) ((other b fun z=>hc (by simp [z])).trans e1),fun b o e1=>?_,?_⟩
 ·by_cases hb : b=T
  ·have e2 : (s.heap.update T (Obj.mapFields (·.setIfInBounds 3 Value.none))).get? b=some (Obj.mapFields (·.setIfInBounds 3 Value.none) oT):=by
    rw [hb]
    exact Heap.get?_update_self _ hT (Obj.isFreed_of_fields (Obj.data_mapFields hdT _))
   exact G.there b _ e2
  ·exact G.there b o ((other b hb).trans e1)
 ·obtain ⟨T',h1,h2⟩:=G.thr
  exact ⟨T',by rwa [Heap.size_after_update] at h1,h2⟩
theorem z7a {env : Env} {e : Value} {Q : Unit->Shared->Prop} (h : wpAny M A (noteFrame e env) (fun _ s'=>wpAny M A (setFlight e none) Q E s') E s) : wpAny M A (leaving env e) Q E s:=by
 unfold leaving
 exact wpAny_bind h
end
end L2
namespace L2
open PySem PySem.Spec PyProof.Rows
theorem ObjOk.some {P : Program} {w : World} {H : Hp} {h : Heap} {a : Addr} {o : HO} (x : ObjOk P w H h a o) : ∃ ob,h.get? a=Option.some ob:=by
 cases q : h.get? a with
 | some ob=>exact ⟨ob,rfl⟩
 | none=>
  have y : ObjOk P w H h a o:=x
  induction o with
  | lst xs=>obtain ⟨_,_,_,_,e⟩:=x; rw [q] at e; cases e
  | tup xs=>obtain ⟨_,_,_,_,e,_⟩:=x; rw [q] at e; cases e
  | dK kvs=>obtain ⟨_,_,_,_,_,_,_,e,_⟩:=x; rw [q] at e; cases e
  | dT kvs=>obtain ⟨_,_,_,_,_,_,_,e,_⟩:=x; rw [q] at e; cases e
  | set S n=>obtain ⟨_,_,_,_,e,_⟩:=x; rw [q] at e; cases e
  | ins C dx fs=>obtain ⟨_,_,_,e,_⟩:=x; rw [q] at e; cases e
  | own y=>obtain ⟨_,e⟩:=x; rw [q] at e; cases e
  | xd fs=>obtain ⟨_,⟨_,_,_,e,_⟩,_⟩:=x; rw [q] at e; cases e
  | met f y=>have e:=x; unfold ObjOk at e; rw [q] at e; cases e
  | rng lo hi=>obtain ⟨_,_,_,e⟩:=x; rw [q] at e; cases e
  | frz ob u ih=>have e:=x.1; rw [q] at e; cases e
  | tbl ps=>have e:=x; unfold ObjOk at e; rw [q] at e; cases e
  | ext φ=>obtain ⟨_,⟨_,e⟩,_⟩:=x; rw [q] at e; cases e
section
variable {X : Cx} {pins : List (Addr × Obj)} {σ : St} {H : Hp} {s : Shared}
noncomputable def FpX (X : Cx) (pins : List (Addr × Obj)) (H : Hp) (b : Addr) : Prop:=
 H b=none∧b≠X.env.locals∧(b∈X.ex∨X.s₀.heap.get? b=none)∧(∀ x c,X.env.cells.lookup x=some c->c≠b)∧∀ p∈X.pn ++ pins,p.1≠b
theorem Inv.fpX {H' : Hp} {b : Addr} (I : Inv X pins σ H s) (hb : s.heap.get? b=none) (hn : H' b=none) : FpX X pins H' b:=by
 refine ⟨hn,fun z=>?_,?_,fun x c e z=>?_,fun p hp z=>?_⟩
 ·obtain ⟨m,⟨o,_,_,ho,_⟩,_⟩:=I.loc
  rw [← z,hb] at ho
  cases ho
 ·by_cases hx : b∈X.ex
  ·exact .inl hx
  ·refine .inr ?_
   cases q : X.s₀.heap.get? b with
   | none=>rfl
   | some o=>
    obtain ⟨o',e⟩:=I.base.there b o q hx
    rw [hb] at e
    cases e
 ·obtain ⟨v,o,ho,_⟩:=I.cell x c e
  rw [z,hb] at ho
  cases ho
 ·have:=(I.pin p hp).1
  rw [z,hb] at this
  cases this
theorem Inv.fresh0 {b : Addr} (I : Inv X pins σ H s) (hb : s.heap.get? b=none) : H b=none:=by
 cases q : H b with
 | none=>rfl
 | some u=>
  obtain ⟨o,e⟩:=(I.hok b u q).some
  rw [hb] at e
  cases e
theorem Inv.gone {ch : List Addr} {e : Addr} {cls : Value} {h' : Heap} (I : Inv X pins σ H s) (G : Gone (frs X.stack) ch e cls s.heap h') (hch : ∀ b∈ch,FpX X pins H b) : Inv X pins σ H { s with heap:=h' }:=by
 have nS : ∀ b u,H b=some u->b ∉ frs X.stack:=fun b u q z=>by rw [I.stkFree b z] at q; cases q
 have nC : ∀ b u,H b=some u->b ∉ ch:=fun b u q z=>by rw [(hch b z).1] at q; cases q
 have hok : HOk X.prog X.w H h':=fun b u q=>(I.hok b u q).stay (fun c v hc e=>by
  rcases hc with rfl | z
  ·exact G.keep _ v (nS _ u q) (nC _ u q) e
  ·exact G.keep c v (nS c _ z) (nC c _ z) e) (fun _ q=>q) fun _ _ q=>q
 have any : ∀ b o,b ∉ ch->s.heap.get? b=some o->∃ sl,h'.get? b=some { o with slots:=sl }:=fun b o hc q=>by
  by_cases hb : b∈frs X.stack
  ·exact G.slot b o hb hc q
  ·exact ⟨o.slots,G.keep b o hb hc q⟩
 have new : ∀ b o,X.s₀.heap.get? b=some o->b ∉ X.ex->b ∉ ch:=fun b o q hx z=>by
  rcases (hch b z).2.2.1 with y | y
  ·exact hx y
  ·rw [y] at q; cases q
 have kp : ∀ b o,b≠X.env.locals->b ∉ X.fs->b ∉ ch->s.heap.get? b=some o->h'.get? b=some o:=fun b o hL hb hc q=>
  G.keep b o (fun z=>(ai.mp (I.stkSub b z)).elim hL hb) hc q
 have old : ∀ b o,X.s₀.heap.get? b=some o->b≠X.env.locals:=fun b o q=>aH (aP (Heap.lt_size q) I.ok.above)
 have cellK : ∀ x c,X.env.cells.lookup x=some c->∀ v,s.heap.IsCell c v->h'.IsCell c v:=fun x c q v z_=>by
  obtain ⟨o,ho,hd⟩:=z_
  obtain ⟨sl,y⟩:=any c o (fun z=>(hch c z).2.2.2.1 x c q rfl) ho
  exact ⟨_,y,hd⟩
 refine ⟨I.ok,I.os,I.bare,⟨?_,?_,fun b o q n hx=>I.base.free b o q n hx,?_,I.base.tups,I.base.frzs,I.base.tbls⟩,?_,?_,I.free,I.freeC,?_,hok,I.len⟩
 ·exact fun b o q n hb hx=>kp b o (old b o q) hb (new b o q hx) (I.base.keep b o q n hb hx)
 ·intro b o q n hb hx
  obtain ⟨sl,q1⟩:=I.base.slot b o q n hb hx
  obtain ⟨sl',q2⟩:=any b _ (new b o q hx) q1
  exact ⟨sl',q2⟩
 ·intro b o q hx
  obtain ⟨o',q1⟩:=I.base.there b o q hx
  exact G.there b o' q1
 ·obtain ⟨m,⟨o,es,ep,ho,r⟩,hl⟩:=I.loc
  obtain ⟨sl,hL⟩:=any _ o (fun z=>(hch _ z).2.1 rfl) ho
  refine ⟨m,⟨_,es,ep,hL,r⟩,fun i x v e1 e2 e3=>?_⟩
  obtain ⟨u,r,l⟩:=hl i x v e1 e2 e3
  exact ⟨u,r,l.imp id fun ⟨k,c,q,z⟩=>⟨k,c,q,cellK x c q _ z⟩⟩
 ·intro x c q
  obtain ⟨v,z⟩:=I.cell x c q
  exact ⟨v,cellK x c q v z⟩
 ·intro p hp
  obtain ⟨q,n,ne,nf,d⟩:=I.pin p hp
  exact ⟨kp p.1 p.2 ne nf (fun z=>(hch p.1 z).2.2.2.2 p hp rfl) q,n,ne,nf,d⟩
end
noncomputable def CXE (P : Program) (w : World) : CXT:=fun outer H s E e s'=>∃ (ea T : Addr) (cls : Value) (H' : Hp),e = .ref ea∧s'.os=s.os∧AllBare s'.gens∧Un (frs outer) [] H H' s.heap s'.heap∧HOk P w H' s'.heap ∧
 s.heap.get? ea=none∧s.heap.get? T=none∧H' ea=none∧H' T=none∧Thr s'.heap ea T cls∧E cls none H'
section
variable {P : Program} {w : World} {K : aa} {mg : Str->Option Value} {base : Heap} {N : List Str} {qual : Str} {scope : Scope} {f : Addr} {cd : Value} {A : Around} {outer : List Env} {s : Shared} {H : Hp} {E : XK}
theorem y5s {pins : List (Addr × Obj)} {σ : St} {H1 : Hp} {s1 : Shared} {e : Addr} {cls : Value} (I : Inv (z9R (CXE P w) P w K mg base N qual scope f cd A outer s H E) pins σ H1 s1)
  (hf : FpX (z9R (CXE P w) P w K mg base N qual scope f cd A outer s H E) pins H1 e) (ht : Thr0 s1.heap e cls) (hE : E cls none H1) : (z9R (CXE P w) P w K mg base N qual scope f cd A outer s H E).xe (.ref e) s1:=by
 refine z7a (y2H (base:=base) (outer:=outer) I.ok.frames I.stack rfl ht fun h' G=>?_)
 have I':=I.gone G fun b hb=>by rw [am.mp hb]; exact hf
 obtain ⟨T,hT,th⟩:=G.thr
 have he : s.heap.get? e=none:=by
  rcases hf.2.2.1 with z | z
  ·exact absurd (show e∈([] : List Addr) from z) (by simp)
  ·exact z
 exact ⟨e,T,cls,H1,rfl,I'.os,I'.bare,I'.base,I'.hok,he,Heap.get?_none_of_le (aQ I.sz hT),hf.1,I.hok.fresh hT,th,hE⟩
end
end L2
namespace L2
open PySem PySem.Spec PyProof.Rows
section
variable {X : Cx} {x : Str} {C : Addr} {B Bn newId nid initId inN : String} {bm bmN : List Value} {np cpos pos : Pos} {e₀ : Expr} {te : TE}
noncomputable def tRaise (te : TE) (R : St->Hp->Prop) : TS:=fun _ σ H=>te σ H fun _ H1=>R σ H1
noncomputable def Want (X : Cx) (C : Addr) (R : St->Hp->Prop) : Prop:=∀ (pins : List (Addr × Obj)) (σ : St) (H : Hp) (s : Shared) (e : Addr),Inv X pins σ H s->FpX X pins H e->Thr0 s.heap e (.ref C)->R σ H->X.xe (.ref e) s
theorem y6g {R : St->Hp->Prop} (hc : X.calm=true) (hg : Gl X x) (O : OwnCls x C bm newId X.mg X.base) (Fn : ExcBaseFacts Bn newId inN bmN) (hBn : bm.contains (.type Bn)=true) (FB : ExcBaseFacts B nid initId bm) (hW : Want X C R) (h : PE X e₀ te)
  (he : starEach [e₀] X.env=[(false,eval e₀ X.env)]:=by rfl) (hd : (x == ("__debug__" : Str))=false:=by decide) : PS X (.Raise (some (.Call (.Name x np) [e₀] [] cpos)) none pos) (tRaise te R):=by
 intro pins s σ H D I hq
 obtain ⟨tl,N,nm,q,bs,hdct,sn,sub,ab,col,dd,k0,k1,k2,k3,k5,mN,hC,hN,hni,T⟩:=O.obj
 refine wpAny_Raise_call_subU (C:=C) (nm:=nm) (q:=q) (N:=N) (bs:=bs) (bm:=tl) (hdct:=hdct) (sn:=sn) (sub:=sub) (ab:=ab) (col:=col) (dd:=dd) (k0:=k0) (k1:=k1) (k2:=k2) (k3:=k3) (k5:=k5)
  Fn hBn FB (mN:=mN) (T.hasType FB.hasBase) (I.ok.hd hc) (by rw [he]; rfl) hni (z9Y I hg O.bound ⟨rfl,?_⟩ hd)
 have ha:=(z1x h pa_nil he) cpos pins s σ H (fun vs H1=>match vs with
  | [_]=>R σ H1
  | _=>False) I hq
 rw [he] at ha ⊢
 refine Calls.evalArgs_plain (thn ha fun us s2 ⟨vs,H2,I2,r2,q2⟩=>?_)
 cases r2 with
 | nil=>exact (show False from q2).elim
 | cons r r3=>
  cases r3 with
  | cons _ _=>exact (show False from q2).elim
  | nil=>
   refine ⟨rfl,by show 1≤sizeLine; rw [sizeLine_eq]; omega,I2.bk _ _ hC,hN.keeps I2.bk,T.keeps I2.bk,fun h' e hm=>?_⟩
   obtain ⟨t,he',_⟩:=hm.there
   have I3 : Inv X pins σ H2 { s2 with heap:=h' }:=I2.kept (t':=s2.toks) hm.keeps
   exact hW pins σ H2 _ e I3 (I2.fpX hm.new (I2.fresh0 hm.new)) ⟨_,_,he',rfl,rfl,rfl,rfl⟩ q2
variable {H0 : Hp} {B0 : Addr->Prop} {fr : Bool} {RX : XR}
noncomputable def z5q (c : Nat) (f : DE) : SS->Option Out:=fun δ=>(f (z0u δ)).map fun _=>.ex c δ
theorem s_raise {c : Nat} {f : DE} (hc : X.calm=true) (hg : Gl X x) (O : OwnCls x C bm newId X.mg X.base) (Fn : ExcBaseFacts Bn newId inN bmN) (hBn : bm.contains (.type Bn)=true) (FB : ExcBaseFacts B nid initId bm) (hW : Want X C (RX c)) (h : PD X e₀ f)
  (he : starEach [e₀] X.env=[(false,eval e₀ X.env)]:=by rfl) (hd : (x == ("__debug__" : Str))=false:=by decide) : PS X (.Raise (some (.Call (.Name x np) [e₀] [] cpos)) none pos) (tS X.K H0 B0 fr RX (z5q c f)):=
 PS.imp (y6g hc hg O Fn hBn FB hW h he hd) fun D σ H z_=>by
  obtain ⟨δ,R,o,rs,q,k⟩:=z_
  unfold z5q at q
  cases e : f (z0u δ) with
  | none=>rw [e] at q; cases q
  | some d=>
   rw [e] at q
   cases q
   exact ⟨noB,z0u δ,d,.no,rs.all,e,fun v H1 s1 r1=>k σ H1 R (rs.mono s1) (.same s1)⟩
end
end L2
namespace L2
open PySem PySem.Spec PyProof.Rows
inductive XO where
 | val (d : D) | exc (c : Nat)
noncomputable def spX (K : aa) (cl : Nat->Value) (m : List D->Option XO) : Sp:=fun vs H Q E=>∃ ds o,Reps K H noB ds vs∧m ds=some o∧(match o with
 | .val d=>∀ v H' A,Same H H'->Tree K H' d v A->A.Nodup->(∀ a∈A,H a=none)->Q v H'
 | .exc c=>∀ H',Same H H'->E (cl c) none H')
noncomputable def y8I (np nl : Nat) (g : SS->Option Out) : List D->Option XO:=fun ds=>if ds.length=np then (match g (ds.map (fun d=>some (.sh d)) ++ aj nl none) with
 | some (.rt d)=>some (.val d)
 | some (.nx _)=>some (.val .non)
 | some (.ex c _)=>some (.exc c)
 | _=>none) else none
theorem y1h {np nl : Nat} {g : SS->Option Out} {ds : List D} {o : XO} (h : y8I np nl g ds=some o) : ds.length=np:=by
 unfold y8I at h
 split at h
 ·assumption
 ·cases h
noncomputable abbrev defRX (cl : Nat->Value) (E : XK) : XR:=fun c _ H1=>E (cl c) none H1
section
variable {P : Program} {w : World} {K : aa} {mg : Str->Option Value} {base : Heap}
theorem fnX {x qual : Str} {st : Stmt} {f : Addr} {fd : FuncData} {N ps : List Str} {k np nl : Nat} {g : SS->Option Out} {cl : Nat->Value} (F : Fun K x qual st f fd) (S : FnScope N ps (z0b st)) (hnp : ps.length=np) (hN : N.length=np + nl)
  (hbody : ∀ (cdv : Value) (A : Around) (outer : List Env) (s : Shared) (H : Hp) (E : XK),Room k (A.deeper (envOfC qual (z0b st) s.heap.objs.size f cdv)) →
   PSs (z9R (CXE P w) P w K mg base N qual (z0b st) f cdv A outer s H E) (z0l st) (tS K H noB true (defRX cl E) g)) : FnOk P w K mg base (CXE P w) (k + 1) f fd ps (spX K cl (y8I np nl g)):=by
 obtain ⟨oc,od,kV,doc,pm,an,cdv,ct,osl,rfl,lk,hcd⟩:=F.ex
 refine fn_of lk hcd S (fun vs H Q E h=>?_) fun A outer s H vs Q E hr h=>?_
 ·obtain ⟨ds,o,r,e,_⟩:=h
  rw [← r.length,y1h e,hnp]
 ·obtain ⟨ds,o,r,e,kk⟩:=h
  refine ⟨_,hbody cdv A outer s H E hr,?_⟩
  have hl:=y1h e
  unfold y8I at e
  rw [if_pos hl] at e
  have rs:=z7U (nl:=nl) .no r (N:=N) (by omega)
  split at e
  ·rename_i d' eg
   cases e
   exact ⟨_,_,_,rs,eg,fun v H' z _=>by
    obtain ⟨A',t,nd,fr⟩:=z.2.1 rfl
    exact kk v H' A' z.1 t nd fr⟩
  ·rename_i δ' eg
   cases e
   exact ⟨_,_,_,rs,eg,fun σ' H' R' rs' _=>kk .non H' [] rs'.keep ⟨rfl,rfl⟩ bf (fun a z=>nomatch z)⟩
  ·rename_i c δ' eg
   cases e
   exact ⟨_,_,_,rs,eg,fun σ' H' R' rs' _=>kk H' rs'.keep⟩
  ·cases e
structure DefX (P : Program) (w : World) (K : aa) (mg : Str->Option Value) (base : Heap) (k : Nat) (x : Str) (sp : Sp) : Prop where
 ok : ∃ (f : Addr) (fd : FuncData) (ps : List Str),mg x=some (.ref f)∧av K (.ref f)=true∧Binds K fd ps []∧FnOk P w K mg base (CXE P w) k f fd ps sp
noncomputable def XW (X : Cx) (cl : Nat->Value) (RX : XR) : Prop:=∀ (pins : List (Addr × Obj)) (σ : St) (H : Hp) (s : Shared) (ea T : Addr) (c : Nat),Inv X pins σ H s->FpX X pins H ea->FpX X pins H T->Thr s.heap ea T (cl c)->RX c σ H->X.xe (.ref ea) s
theorem xw_def {N : List Str} {qual : Str} {scope : Scope} {f : Addr} {cd : Value} {A : Around} {outer : List Env} {s : Shared} {H : Hp} {E : XK} {cl : Nat->Value} : XW (z9R (CXE P w) P w K mg base N qual scope f cd A outer s H E) cl (defRX cl E):=by
 intro pins σ H1 s1 ea T c I fe fT th hE
 refine z7a (y3Q (base:=base) (outer:=outer) I.ok.frames I.stack rfl th fun h' G=>?_)
 have I':=I.gone G fun b hb=>by
  rcases ai.mp hb with rfl | hb
  ·exact fe
  ·rw [am.mp hb]; exact fT
 obtain ⟨T',hT,th'⟩:=G.thr
 have he : s.heap.get? ea=none:=by
  rcases fe.2.2.1 with z | z
  ·exact absurd (show ea∈([] : List Addr) from z) (by simp)
  ·exact z
 exact ⟨ea,T',cl c,H1,rfl,I'.os,I'.bare,I'.base,I'.hok,he,Heap.get?_none_of_le (aQ I.sz hT),fe.1,I.hok.fresh hT,th',hE⟩
theorem z8r {N : List Str} {qual : Str} {scope : Scope} {f C : Addr} {cd : Value} {A : Around} {outer : List Env} {s : Shared} {H : Hp} {E : XK} {cl : Nat->Value} {c : Nat} (hc : cl c = .ref C) : Want (z9R (CXE P w) P w K mg base N qual scope f cd A outer s H E) C (defRX cl E c):=
 fun pins σ H1 s1 e I hf ht hE=>y5s I hf ht (by rw [← hc]; exact hE)
end
section
variable {X : Cx} {k : Nat} {f : Addr} {fd : FuncData} {ps : List Str} {sp : Sp} {cl : Nat->Value} {RX : XR}
theorem run_fnX {pins : List (Addr × Obj)} {σ : St} {H : Hp} {s : Shared} {Q : VK} {us : List Value} {vs : List V} (F : FnOk X.prog X.w X.K X.mg X.base (CXE X.prog X.w) k f fd ps sp) (hr : Room k X.A) (hb : Binds X.K fd ps []) (hW : XW X cl RX)
  (I : Inv X pins σ H s) (r : Vals vs us) (h : sp vs H Q (fun cls _ H'=>∃ c,cls=cl c∧RX c σ H')) : wpAny (model X.prog X.w) X.A (call (.ref f) us) (EP X pins σ Q) X.xe s:=by
 have hl : us.length=ps.length:=by rw [← r.length]; exact F.len _ _ _ _ h
 have hb':=hb s us I.kIn (by rw [aL]; exact hl)
 rw [aL] at hb'
 refine wpAny_call (codeAny_mono (F.run X.A X.stack s H ⟨us,[]⟩ us vs Q _ hr I.env0 hb' r h) fun r s' hq=>?_)
 cases r with
 | error e=>
  obtain ⟨ea,T,cls,H',rfl,os,bare,un,hok,h1,h2,h3,h4,th,c,rfl,rx⟩:=hq
  exact hW pins σ H' s' ea T c (I.call' os un hok bare fun b hb=>nomatch hb) (I.fpX h1 h3) (I.fpX h2 h4) th rx
 | ok fl=>
  cases fl with
  | ret u=>exact I.after hq
  | next=>exact False.elim hq
  | brk=>exact False.elim hq
  | cont=>exact False.elim hq
end
end L2
namespace L2
open PySem PySem.Spec PyProof.Rows
section
variable {X : Cx} {k : Nat} {sp : Sp} {cl : Nat->Value} {RX : XR} {x : Str} {p pos pos2 : Pos} {e : Expr} {es : List Expr} {t : TA}
noncomputable def tCallX (cl : Nat->Value) (RX : XR) (sp : Sp) (t : TA) : TE:=fun σ H Q=>t σ H fun vs H1=>sp vs H1 Q fun cls _ H'=>∃ c,cls=cl c∧RX c σ H'
theorem y7O (G : DefX X.prog X.w X.K X.mg X.base k x sp) (hr : Room k X.A) (hg : Gl X x) (hW : XW X cl RX) (ha : PA X (e :: es) t) (hdb : (x == ("__debug__" : Str))=false:=by decide)
  (he : starEach (e :: es) X.env=(false,eval e X.env) :: starEach es X.env:=by rfl) (hpl : (backTo pos (starEach es X.env)).any (·.1)=false:=by rfl) : PE X (.Call (.Name x p) (e :: es) [] pos) (tCallX cl RX sp t):=by
 obtain ⟨f,fd,ps,hm,hk,hb,ok⟩:=G.ok
 intro pins s σ H Q I h
 refine wpAny_Call_Name_kw (z9Y I hg hm ?_ hdb)
 refine dX (h₀:=X.base) I.ok.mod.kin hk (thn (ha pos pins s σ H _ I h) fun us s1 ⟨vs,H1,I1,r,q⟩=>⟨I1.kIn,?_⟩) he hpl
 exact run_fnX ok hr hb hW I1 r q
noncomputable def tX (K : aa) (RX : XR) (F : DS->Option XO) : TE:=fun σ H Q=>∃ δ o,RepS K H noB σ δ∧F δ=some o∧(match o with
 | .val d=>∀ v H' A,Same H H'->Tree K H' d v A->A.Nodup->(∀ a∈A,H a=none)->Q v H'
 | .exc c=>∀ H',Same H H'->RX c σ H')
noncomputable def z7l (m : List D->Option XO) (fl : List DE) : DS->Option XO:=fun δ=>(z0q fl δ).bind m
theorem y3s {m : List D->Option XO} {fl : List DE} (G : DefX X.prog X.w X.K X.mg X.base k x (spX X.K cl m)) (hr : Room k X.A) (hg : Gl X x) (hW : XW X cl RX) (ha : PAD X (e :: es) fl) (hdb : (x == ("__debug__" : Str))=false:=by decide)
  (he : starEach (e :: es) X.env=(false,eval e X.env) :: starEach es X.env:=by rfl) (hpl : (backTo pos (starEach es X.env)).any (·.1)=false:=by rfl) : PE X (.Call (.Name x p) (e :: es) [] pos) (tX X.K RX (z7l m fl)):=
 (y7O G hr hg hW ha hdb he hpl).imp fun σ H Q z_=>by
  obtain ⟨δ,o,S,q,kk⟩:=z_
  unfold z7l at q
  cases e1 : z0q fl δ with
  | none=>rw [e1] at q; cases q
  | some ds=>
   rw [e1,ax] at q
   refine ⟨noB,δ,ds,.no,S,e1,fun vs H1 s1 r1=>⟨ds,o,r1,q,?_⟩⟩
   cases o with
   | val d=>exact fun v H' A s' t nd fr=>kk v H' A (s1.trans s') t nd fun a ha=>s1.free (fr a ha)
   | exc c=>exact fun H' s'=>⟨c,rfl,kk H' (s1.trans s')⟩
variable {H0 : Hp} {B0 : Addr->Prop} {fr : Bool} {F : DS->Option XO}
noncomputable def y4s (F : DS->Option XO) : SS->Option Out:=fun δ=>(F (z0u δ)).map fun o=>match o with
 | .val _=>.nx δ
 | .exc c=>.ex c δ
theorem s_exprX (h : PE X e (tX X.K RX F)) (hs : swapsWith e none pos.line X.env=pure false:=by rfl) : PS X (.Expr e pos) (tS X.K H0 B0 fr RX (y4s F)):=PS.imp (z5c h hs) fun D σ H z_=>by
 obtain ⟨δ,R,o,rs,q,k⟩:=z_
 unfold y4s at q
 cases e1 : F (z0u δ) with
 | none=>rw [e1] at q; cases q
 | some o1=>
  rw [e1] at q
  refine ⟨z0u δ,o1,rs.all,e1,?_⟩
  cases o1 with
  | val d=>
   cases q
   exact fun v H' A s t nd fr'=>k σ H' R (rs.mono s) (Stp.same s)
  | exc c=>
   cases q
   exact fun H' s=>k σ H' R (rs.mono s) (.same s)
end
end L2
namespace L2
open PySem PySem.Spec PyProof.Rows
section
variable {X : Cx} {pins : List (Addr × Obj)} {σ : St} {H : Hp} {s : Shared} {e : Value}
end
section
variable {X : Cx} {cls : Value} {x : Str} {C : Addr} {np hpos : Pos} {b₀ : Stmt} {suite : List Stmt} {rest : List ExceptHandler} {t : TS}
end
end L2
namespace L2
open PySem PySem.Spec PyProof.Rows
section
variable {X : Cx} {pins pn : List (Addr × Obj)} {xe : Value->Shared->Prop} {σ : St} {H : Hp} {s : Shared}
end
section
variable {X : Cx} {H0 : Hp} {B0 : Addr->Prop} {fr : Bool} {RX : XR} {cl : Nat->Value} {body : List Stmt} {h₀ : ExceptHandler} {hs : List ExceptHandler} {pos : Pos}
end
end L2
namespace L2
open PySem PySem.Spec PyProof.Rows
section
variable {K : aa} {H0 H : Hp} {B0 : Addr->Prop} {σ : St} {δ : SS} {R : Nat->List Addr}
noncomputable def movS (i j : Nat) (d : D) (δ : SS) : SS:=((z0y j δ).set j none).set i (some (.ow d))
theorem z7N {i j k : Nat} {d : D} {x : SD} (h : (movS i j d δ)[k]? = some (some x)) : (k=i∧x = .ow d∧i < δ.length)∨(k≠i∧k≠j∧δ[k]? = some (some x)∧∀ d,x≠.bo j d):=by
 unfold movS at h
 rcases z1V h with ⟨e,q,hl⟩ | ⟨hk,q⟩
 ·cases q
  refine .inl ⟨e,rfl,?_⟩
  rw [cM] at hl
  unfold z0y at hl
  rwa [aq] at hl
 ·rcases z1V q with ⟨e,q',_⟩ | ⟨hj,q'⟩
  ·cases q'
  ·exact .inr ⟨hk,hj,z2r q'⟩
theorem RS.mov {i j : Nat} {d : D} {v : V} (hij : i≠j) (h : RS K H0 B0 H σ δ R) (t : Tree K H d v (R j)) (nd : (R j).Nodup) : RS K H0 B0 H (σ.set i (some v)) (movS i j d δ) (z5t (z5t R j []) i (R j)):=by
 have up : ∀ {k : Nat} {w : V},k≠i->σ[k]? = some (some w)->(σ.set i (some v))[k]? = some (some w):=fun hj e=>by rw [bg (Ne.symm hj)]; exact e
 have mem : ∀ r a,a∈z5t (z5t R j []) i (R j) r->(r=i∧a∈R j)∨(r≠i∧r≠j∧a∈R r):=fun r a z=>by
  by_cases hr : r=i
  ·subst hr; rw [z0C] at z; exact .inl ⟨rfl,z⟩
  ·rw [z0Y hr] at z
   by_cases hj : r=j
   ·subst hj; rw [z0C] at z; cases z
   ·rw [z0Y hj] at z; exact .inr ⟨hr,hj,z⟩
 refine ⟨h.keep,h.inB,by unfold movS z0y; simp [h.len],fun r a z=>?_,fun r a z=>?_,fun r s a z z'=>?_,fun k d' z=>?_,fun k r' d' z=>?_,fun k d' z=>?_⟩
 ·rcases mem r a z with ⟨_,z⟩ | ⟨_,_,z⟩ <;> exact h.new _ a z
 ·rcases mem r a z with ⟨_,z⟩ | ⟨_,_,z⟩ <;> exact h.held _ a z
 ·rcases mem r a z with ⟨h1,z⟩ | ⟨h1,h1',z⟩ <;> rcases mem s a z' with ⟨h2,z'⟩ | ⟨h2,h2',z'⟩
  ·rw [h1,h2]
  ·exact absurd (h.disj s j a z' z) h2'
  ·exact absurd (h.disj r j a z z') h1'
  ·exact h.disj r s a z z'
 ·rcases z7N z with ⟨_,q,_⟩ | ⟨h1,h2,q,_⟩
  ·cases q
  ·obtain ⟨w,e1,r⟩:=h.sh k d' q
   refine ⟨w,up h1 e1,r.anti fun a z=>z.imp id fun ⟨r,z⟩=>?_⟩
   rcases mem r a z with ⟨_,z⟩ | ⟨_,_,z⟩ <;> exact ⟨_,z⟩
 ·rcases z7N z with ⟨_,q,_⟩ | ⟨h1,h2,q,hn⟩
  ·cases q
  ·obtain ⟨w,e1,r⟩:=h.bo k r' d' q
   have hr' : r'≠j:=fun e=>hn d' (by rw [e])
   refine ⟨w,up h1 e1,r.anti fun a z=>z.imp id fun ⟨s,hs,z⟩=>?_⟩
   rcases mem s a z with ⟨_,z⟩ | ⟨_,_,z⟩
   ·exact ⟨j,Ne.symm hr',z⟩
   ·exact ⟨s,hs,z⟩
 ·rcases z7N z with ⟨e,q,hl⟩ | ⟨h1,h2,q,_⟩
  ·cases q
   subst e
   rw [z0C]
   exact ⟨v,by rw [b9]; simp [← h.len,hl],t,nd⟩
  ·obtain ⟨w,e1,t'⟩:=h.ow k d' q
   rw [z0Y h1,z0Y h2]
   exact ⟨w,up h1 e1,t'⟩
end
section
variable {X : Cx} {H0 : Hp} {B0 : Addr->Prop} {fr : Bool} {RX : XR} {pos : Pos} {st : Stmt}
noncomputable def movO (i j : Nat) : SS->Option Out:=fun δ=>match δ[j]? with
 | some (some (.ow d))=>some (.nx (movS i j d δ))
 | _=>none
theorem s_mov {i j : Nat} (hij : i≠j) (h : PAsg X st i (z7x j)) : PS X st (tS X.K H0 B0 fr RX (movO i j)):=PS.imp h fun D σ H z_=>by
 obtain ⟨δ,R,o,rs,q,k⟩:=z_
 unfold movO at q
 split at q
 ·rename_i d e
  cases q
  obtain ⟨v,e1,t,nd⟩:=rs.ow j d e
  refine ⟨v,e1,k _ H _ (rs.mov hij t nd) ⟨fun a o h _=>h,fun r a z=>?_,fun a z=>z⟩⟩
  by_cases hr : r=i
  ·subst hr; rw [z0C] at z; exact .inl ⟨j,z⟩
  ·rw [z0Y hr] at z
   by_cases hj : r=j
   ·subst hj; rw [z0C] at z; cases z
   ·rw [z0Y hj] at z; exact .inl ⟨r,z⟩
 ·cases q
end
end L2
namespace L2
open PySem PySem.Spec PyProof.Rows
theorem y6p {X : Cx} {H0 : Hp} {B0 : Addr->Prop} {fr : Bool} {RX : XR} {body : List Stmt} : PSs X body (tS X.K H0 B0 fr RX fun _=>none):=fun _ _ _ _ _ _ ⟨_,_,_,_,e,_⟩=>nomatch e
section
variable {X : Cx}
end
noncomputable def revS : D->Option (List D)
 | .lst ds=>some ds.reverse
 | _=>none
section
variable {X : Cx}
end
end L2
namespace L2
open PySem PySem.Spec PyProof.Rows
section
variable {X : Cx} {c e : Expr} {fc : DS->Option Bool} {fe : DE} {f g : DS->Option (Option D)} {st : Stmt} {sts : List Stmt} {p1 pos : Pos}
end
section
variable {X : Cx} {H0 : Hp} {B0 : Addr->Prop} {fr : Bool} {RX : XR} {pos : Pos}
end
end L2
namespace L2
open PySem PySem.Spec PyProof.Rows
noncomputable abbrev bmVE : List Value:=[.type "ValueError",.type "Exception",.type "BaseException",.type "object"]
theorem own_mk {K : aa} {h : Heap} {mg : Str->Option Value} {x : Str} {C : Addr} {bl : List Value} {nid : String} (X : K.In h) (G : h.Ns mainGlobals mg) (ha : au K mainGlobals x=some (some (.ref C))) (hq : dw K C bl nid=true) : OwnCls x C bl nid mg h:=by
 refine ⟨aG X G ha,?_⟩
 unfold dw at hq
 cases hk : K.lookup C with
 | none=>rw [hk] at hq; cases hq
 | some ob=>
  rw [hk] at hq
  have hat:=X _ _ hk
  split at hq
  case h_2=>cases hq
  case h_1 od cls sl z=>
   cases z
   split at hq
   case h_2=>cases hq
   case h_1 C1 tl b0 b1 b2 b3 n b5 em es=>
    simp only [aJ,beq_iff_eq,Bool.not_eq_true'] at hq
    obtain ⟨⟨⟨⟨⟨z1,z2⟩,z3⟩,z4⟩,z5⟩,z6⟩:=hq
    cases cls with
    | mk nm bs mro ns qn hd sn sub ab col del=>
     cases sl with
     | mk l=>
      dsimp only at em es z3 z5 z6
      rw [em,es,z3,z1,z2] at hat
      exact ⟨tl,ns,nm,qn,bs,hd,sn,sub,ab,col,od,b0,b1,b2,b3,b5,_,hat,.of_isNs (PySem.W.isNs_of_in X z5),PySem.W.nsMap_none_of_in X z5 z6,PySem.W.tail_of_in X z4⟩
section
variable {X : Cx} {x : Str} {C : Addr} {np cpos pos : Pos} {e₀ : Expr} {H0 : Hp} {B0 : Addr->Prop} {fr : Bool} {RX : XR}
theorem z8w {c : Nat} {f : DE} (hc : X.calm=true) (hg : Gl X x) (O : OwnCls x C bmVE "ValueError.__new__" X.mg X.base) (hW : Want X C (RX c)) (h : PD X e₀ f)
  (he : starEach [e₀] X.env=[(false,eval e₀ X.env)]:=by rfl) (hd : (x == ("__debug__" : Str))=false:=by decide) : PS X (.Raise (some (.Call (.Name x np) [e₀] [] cpos)) none pos) (tS X.K H0 B0 fr RX (z5q c f)):=
 s_raise hc hg O PySem.F.excBase_ValueError (by decide) PySem.F.excBase_ValueError hW h he hd
end
end L2
namespace L2
open PySem PySem.Spec PyProof.Rows
noncomputable def valO : Option XO->Option D
 | some (.val d)=>some d
 | _=>none
noncomputable def y1k (m : List D->Option XO) (fl : List DE) : DE:=fun δ=>valO (z7l m fl δ)
section
variable {X : Cx} {k : Nat} {cl : Nat->Value} {x : Str} {p pos : Pos} {e : Expr} {es : List Expr}
theorem xw_no : XW X cl noX:=fun _ _ _ _ _ _ _ _ _ _ _ h=>h.elim
theorem y7U {m : List D->Option XO} {fl : List DE} (G : DefX X.prog X.w X.K X.mg X.base k x (spX X.K cl m)) (hr : Room k X.A) (hg : Gl X x) (ha : PAD X (e :: es) fl) (hdb : (x == ("__debug__" : Str))=false:=by decide)
  (he : starEach (e :: es) X.env=(false,eval e X.env) :: starEach es X.env:=by rfl) (hpl : (backTo pos (starEach es X.env)).any (·.1)=false:=by rfl) : PN X (.Call (.Name x p) (e :: es) [] pos) (y1k m fl):=
 (y3s (RX:=noX) G hr hg xw_no ha hdb he hpl).imp fun σ H Q z_=>by
  obtain ⟨δ,d,S,q,kk⟩:=z_
  unfold y1k at q
  cases e1 : z7l m fl δ with
  | none=>rw [e1] at q; cases q
  | some o=>
   rw [e1] at q
   cases o with
   | exc c=>cases q
   | val d'=>
    cases q
    exact ⟨δ,.val d,S,e1,kk⟩
end
end L2
namespace L2
open PySem PySem.Spec PyProof.Rows
section
variable {X : Cx} {pins : List (Addr × Obj)} {σ : St} {H : Hp} {s : Shared}
end
section
variable {X : Cx} {x n : Str} {C Ca : Addr} {np hpos : Pos} {b₀ : Stmt} {suite : List Stmt} {rest : List ExceptHandler} {t : TS} {i : Nat}
end
section
variable {K : aa} {H0 H : Hp} {B0 : Addr->Prop} {σ : St} {δ : SS} {R : Nat->List Addr}
end
section
variable {X : Cx} {e : Expr} {f : DE} {y : Str} {p p2 pos : Pos} {L N : List Str}
end
section
variable {X : Cx} {H0 : Hp} {B0 : Addr->Prop} {fr : Bool} {RX : XR} {x n xn : Str} {C Ca : Addr} {np hpos : Pos} {b₀ : Stmt} {suite : List Stmt} {rest : List ExceptHandler} {g : SS->Option Out} {i : Nat}
end
end L2
namespace L2
open PySem PySem.Spec PyProof.Rows
section
variable {X : Cx} {e : Expr} {es : List Expr} {pos : Pos}
variable {H0 : Hp} {B0 : Addr->Prop} {RX : XR} {a b : Expr} {pos' : Pos}
noncomputable def z6X (δ : SS) (i : Nat) : Option D:=match δ[i]? with
 | some (some (.ow d))=>some d
 | some (some (.sh d))=>if d.imm=true then some d else none
 | _=>none
noncomputable def ret2 (i j : Nat) : SS->Option Out:=fun δ=>match z6X δ i,z6X δ j with
 | some d,some e=>some (.rt (.lst [d,e]))
 | _,_=>none
theorem z5M {K : aa} {H : Hp} {σ : St} {δ : SS} {R : Nat->List Addr} {i : Nat} {d : D} (rs : RS K H0 B0 H σ δ R) (h : z6X δ i=some d) : ∃ v A,σ[i]? = some (some v)∧Tree K H d v A∧A.Nodup∧∀ a∈A,a∈R i:=by
 unfold z6X at h
 split at h
 ·rename_i d' e
  cases h
  obtain ⟨v,e1,t,nd⟩:=rs.ow i _ e
  exact ⟨v,R i,e1,t,nd,fun a z=>z⟩
 ·rename_i d' e
  split at h
  ·rename_i hi
   cases h
   obtain ⟨v,e1,r⟩:=rs.sh i _ e
   exact ⟨v,[],e1,r.immTree _ hi,bf,(fun a z=>nomatch z)⟩
  ·cases h
 ·cases h
end
end L2
namespace L2
open PySem PySem.Spec PyProof.Rows
section
variable {X : Cx} {k : Nat} {x : Str} {p pos : Pos} {e : Expr} {es : List Expr}
end
end L2
namespace L2
open PySem PySem.Spec PyProof.Rows
noncomputable def repLs : D->D->Option (List D)
 | .lst ds,.int k=>if (0≤k∧k≤1000000)∧ds.length * k.toNat≤sizeLine then some (aj k.toNat ds).flatten else none
 | _,_=>none
noncomputable def dRep (f g : DE) : DS->Option (List D):=fun δ=>(f δ).bind fun x=>(g δ).bind fun y=>repLs x y
theorem Reps.rep {K : aa} {H : Hp} {B : Addr->Prop} {ds : List D} {xs : List V} (h : Reps K H B ds xs) : ∀ n : Nat,Reps K H B (aj n ds).flatten (aj n xs).flatten
 | 0=>(show Reps K H B [] [] by unfold Reps; rfl)
 | n + 1=>by
  rw [bn,bn,bx,bx]
  exact h.append (Reps.rep h n)
noncomputable def dIxX (F : DS->Option XO) (g : DE) : DS->Option XO:=fun δ=>match F δ with
 | some (.val d)=>(g δ).bind fun y=>(ixD d y).bind fun z=>if z.imm=true then some (.val z) else none
 | some (.exc c)=>some (.exc c)
 | none=>none
section
variable {X : Cx} {a b : Expr} {pos : Pos} {f g : DE} {RX : XR}
theorem y8g (ha : PD X a f) (hb : PD X b g) : PF X (.BinOp a .Mult b pos) (dRep f g):=(pe_op op_rep ha hb).imp fun σ H Q z_=>by
 obtain ⟨B,δ,ds,hB,S,q,k⟩:=z_
 unfold dRep at q
 cases e1 : f δ with
 | none=>rw [e1] at q; cases q
 | some x=>
 rw [e1,ax] at q
 cases e2 : g δ with
 | none=>rw [e2] at q; cases q
 | some y=>
 rw [e2,ax] at q
 unfold repLs at q
 split at q
 case h_2=>cases q
 case h_1 xs n=>
 split at q
 case isFalse=>cases q
 case isTrue hl=>
 cases q
 refine ⟨B,δ,_,hB,S,e1,fun v H1 s1 r1=>⟨B,δ,_,hB.mono s1,S.mono s1,e2,fun v2 H2 s2 r2=>?_⟩⟩
 unfold Rep at r2
 subst r2
 unfold Rep at r1
 obtain ⟨p1,vs,rfl,n1,h1,rs1⟩:=r1
 refine ⟨p1,n,vs,rfl,rfl,s2 _ _ h1,by omega,by omega,by rw [← rs1.length]; exact hl.2,fun p hp=>?_⟩
 exact k p _ _ ((s1.trans s2).trans (z0r hp)) ((s1.trans s2).free hp) z0o (((rs1.mono s2).rep _).mono (z0r hp))
end
end L2
namespace PySem
open Sem (wp)
theorem y0n : typeLookup (.type "dict") "__len__" = pure (some (.builtin "dict.__len__")):=by rw [typeLookup_type,builtinLookup_eq_fast]; kernel_rfl
section
variable {K : Type} [DecidableEq K] {prog : Program} {w : World} {knd : KeyKind prog w K} {A : Around} {E : Value->Shared->Prop} {s : Shared}
theorem z4B {d : Addr} {kvs : List (K × Value)} {ep : Nat} {Q : List Value->Shared->Prop} (hh : A.in1.handled=none) (hd : (d == sysModules)=false) (hm : s.heap.DictAt knd d kvs ep) (hn : kvs.length≤sizeLine)
  (hQ : ∀ s' acc,Moved [] (fun a b=>b=a) s s'->ItemsOf (fun i v=>∃ k x,kvs[i]? = some (k,x)∧knd.is k v=true) acc kvs.length->Q acc.toList s') : wpAny (model prog w) A (collect (.ref d)) Q E s:=by
 have hlt : (d : Nat) < s.heap.objs.size:=hm.lt_size
 have hSd : s.heap.objs.size≠d:=fun e=>bC _ (e ▸ hlt)
 unfold collect
 refine wpAny_bind (wpAny_runValue (codeAny_builtin F.entry_proto_collect ?_))
 rw [Around.under_plainId F.plain_proto_collect _]
 show wpAny _ A.in1 (newList [] >>= fun l=>again (.builtin "list.__iadd__" ⟨[l,.ref d],[]⟩)) _ _ s
 refine wpAny_bind (wpAny_newObj_type ?_)
 refine wpAny_pure ⟨plainId_quiet F.plain_list_iadd _,codeAny_builtin F.entry_list_iadd ?_⟩
 rw [Around.under_plainId F.plain_list_iadd _]
 have hm1:=hm.push { cls:=.type "list",data:=.seq ([] : List Value).toArray }
 have hT1 : ({ s with heap:=s.heap.push { cls:=.type "list",data:=.seq ([] : List Value).toArray } } : Shared).TypeIs (.ref d) "dict" := hm1.dictOf.typeIs
 have h1 : Builtin.List.listSameRef (.ref s.heap.objs.size) (.ref d)=false:=by simp [Builtin.List.listSameRef,hSd]
 show wpAny _ A.in1 (Builtin.List.listExtendWith (.ref s.heap.objs.size) (.ref d) (.ref s.heap.objs.size)) _ _ _
 unfold Builtin.List.listExtendWith
 refine wpAny_bind (wpAny_typeOf hT1 ?_)
 rw [if_neg (by rw [h1]; decide)]
 refine wpAny_bind (wpAny_pyIter_dict hd hm1 ?_)
 refine wpAny_bind (wpAny_holding ?_)
 unfold Builtin.List.listLengthHint
 have hm2:=hm1.push { cls:=.type "dict_keyiterator",data:=.fields #[.ref d,.int 0 0,.int kvs.length 0,.int ep 0] }
 have hT2:=hm2.dictOf.typeIs (s:={ s with heap:=(s.heap.push { cls:=.type "list",data:=.seq ([] : List Value).toArray }).push { cls:=.type "dict_keyiterator",data:=.fields #[.ref d,.int 0 0,.int kvs.length 0,.int ep 0] } })
 refine wpAny_bind (wpAny_specialOf hT2 y0n ?_)
 (generalize hid : ("dict.__len__" : String)=id0; (fail_if_success (clear hid id0)); wp_delta; rw [show splitId id0=some ("dict", "__len__") from by subst hid; decide +kernel]; subst hid)
 refine wpAny_bind (wpAny_isInstance (b:=true) hT2 (by rw [isSubtype_type]; kernel_rfl) ?_)
 show wpAny _ A.in1 (typeOf (Value.ref d) >>= _) _ _ _
 refine wpAny_bind (wpAny_typeOf hT2 ?_)
 refine wpAny_pure ?_
 show wpAny _ A.in1 (rule "list.extend.makes-room" >>= fun _=>Builtin.List.listTouch (.ref s.heap.objs.size) >>= fun _=>
  again (.builtin "list.extend.loop" ⟨[.ref s.heap.objs.size,.ref (s.heap.push { cls:=.type "list",data:=.seq ([] : List Value).toArray }).objs.size,.ref s.heap.objs.size],[]⟩)) _ _ _
 refine wpAny_bind (wpAny_rule ?_)
 obtain ⟨hA,eA⟩ : ∃ h : Heap,h=s.heap.push { cls:=.type "list",data:=.seq ([] : List Value).toArray }:=⟨_,rfl⟩
 obtain ⟨hB,eB⟩ : ∃ h : Heap,h=hA.push { cls:=.type "dict_keyiterator",data:=.fields #[.ref d,.int 0 0,.int kvs.length 0,.int ep 0] }:=⟨_,rfl⟩
 have sA : hA.objs.size=s.heap.objs.size + 1:=by rw [eA]; simp [Heap.push]
 have hne : d≠hA.objs.size:=aH (aP hlt (by rw [sA]; exact cn _))
 have W:=(Walks.dictKeys (A:=A.in1) (prog:=prog) (w:=w) (knd:=knd) hh hA.objs.size d hne kvs ep).toS
 have hIt : hB.IsKeyIter hA.objs.size d 0 kvs.length ep:=⟨_,by rw [eB]; exact Heap.get?_push_size _ rfl,rfl,rfl⟩
 have hDt : hB.DictAt knd d kvs ep:=by rw [eB,eA]; exact hm2
 have hS₁ : hB.get? s.heap.objs.size=some { cls:=.type "list",data:=.seq ([] : List Value).toArray }:=by rw [eB,eA]; exact Heap.get?_push_of_some _ (Heap.get?_push_size _ rfl)
 have hSf : s.heap.objs.size ∉ [hA.objs.size,d]:=fun hm=>by
  rcases ai.mp hm with z | z
  ·omega
  ·exact hSd (am.mp z)
 rw [← eA,← eB]
 refine wpAny_bind ?_
 show wpAny _ A.in1 (updateSeq s.heap.objs.size (·.push .none) >>= fun _=>updateSeq s.heap.objs.size (·.pop)) _ _ _
 refine wpAny_bind (wpAny_updateSeq hS₁ rfl ?_)
 have hS₂:=Heap.get?_update_self (Obj.mapSeq (·.push Value.none)) hS₁ rfl
 refine wpAny_updateSeq hS₂ rfl ?_
 have hS₃:=Heap.get?_update_self (Obj.mapSeq (·.pop)) hS₂ rfl
 have oth : ∀ b o,b≠s.heap.objs.size->hB.get? b=some o->((hB.update s.heap.objs.size (Obj.mapSeq (·.push Value.none))).update s.heap.objs.size (Obj.mapSeq (·.pop))).get? b=some o:=
  fun b o hb e=>(Heap.get?_update_other _ _ (Ne.symm hb)).trans ((Heap.get?_update_other _ _ (Ne.symm hb)).trans e)
 refine wpAny_pure ⟨plainId_quiet F.plain_extend_loop _,codeAny_extend_loopS W hn _ hSf _ kvs.length 0 _ _ _ rfl (bA _)
  (W.frame 0 ({ s with heap:=hB } : Shared) _ s.toks ⟨hIt,hDt⟩ (ar _) fun b hb o e=>oth b o (fun h=>hSf (h ▸ hb)) e) hS₃ (ItemsOf.nil _) fun s' acc' c' hmv hS' hacc=>?_⟩
 show wpAny _ A (load s.heap.objs.size >>= _) _ _ s'
 refine wpAny_bind (wpAny_load hS' ?_)
 refine wpAny_pure (hQ s' acc' ⟨fun b o _ e=>?_,hmv.gens,hmv.drawn,hmv.os,hmv.toks⟩ hacc)
 have hb : (b : Nat) < s.heap.objs.size:=Heap.lt_size e
 refine hmv.heap b o (fun z=>?_) (oth b o (aH hb) (by rw [eB,eA]; exact Heap.get?_push_of_some _ (Heap.get?_push_of_some _ e)))
 rcases ai.mp z with z | z
 ·exact aH hb z
 ·exact aH (aP hb (by rw [sA]; exact cn _)) (am.mp z)
end
end PySem
namespace L2
open PySem PySem.Spec PyProof.Rows
theorem y4w : ∀ {vs : List Value} {ns : List Int},vs.length=ns.length->(∀ (j : Nat) (v : Value) (n : Int),vs[j]? = some v->ns[j]? = some n->∃ t : Tok,v=Value.int n t)->IntsAre vs ns
 | [],[],_,_=>.nil
 | [],_ :: _,h,_=>by cases h
 | _ :: _,[],h,_=>by cases h
 | v :: vs,n :: ns,h,hs=>by
  obtain ⟨t,rfl⟩:=hs 0 v n rfl rfl
  exact .cons n t (y4w (by simpa using h) fun j v n e1 e2=>hs (j + 1) v n (by simpa using e1) (by simpa using e2))
section
variable {prog : Program} {w : World} {A : Around} {E : Value->Shared->Prop} {s : Shared}
theorem y0y {d : Addr} {kvs : List (Key × Value)} {ep : Nat} {ns : List Int} {Q : Value->Shared->Prop} (hh : A.handled=none) (hd : (d == sysModules)=false) (hm : s.heap.DictAt (z1g prog w) d kvs ep) (hk : kvs.map (·.1)=ns.map Sum.inl) (h64 : ns.length < 64)
  (h : ∀ (h1 h' : Heap) (tk : Nat) (out : List Value) (e : Nat) (ns' : List Int),(∀ b o',s.heap.get? b=some o'->h1.get? b=some o')->(∀ b o',h1.get? b=some o'->h'.get? b=some o')->h'.get? h1.objs.size=some { cls:=.type "list",data:=.seq out.toArray e }->IntsAre out ns'->ns'.Perm ns->ns'.Pairwise (· ≤ ·)->Q (.ref h1.objs.size) { s with heap:=h',toks:=tk }) :
  wpAny (model prog w) A (call (.builtin "sorted") [.ref d]) Q E s:=by
 have hl : kvs.length=ns.length:=by rw [← aq (f:=(·.1)),hk,aq]
 refine Calls.call_function_entry kind_sorted plain_sorted entry_sorted (args_sorted1 _) ?_
 unfold Builtin.«sorted»
 refine wpAny_bind (m:=checkCount "sorted" 1 1 _) (wpAny_pure ?_)
 refine wpAny_bind (z4B hh hd hm (by rw [sizeLine_eq]; omega) fun s1 acc mv hit=>?_)
 have hI : IntsAre acc.toList ns:=by
  refine y4w (by rw [bQ,hit.1,hl]) fun j v n e1 e2=>?_
  obtain ⟨k,x,e3,e4⟩:=hit.2 j v (by rw [← e1]; simp)
  have e5 : (kvs.map (·.1))[j]? = some k:=by rw [aN,e3]; rfl
  rw [hk,aN,e2] at e5
  cases e5
  rcases z0J (show y0K (Sum.inl n) v=true from e4) with ⟨i,t,z1,z2⟩ | ⟨y,t,z1,z2⟩
  ·cases z1; exact ⟨t,z2⟩
  ·cases z1
 have es:=Moved.eq_with mv
 refine wpAny_bind (wpAny_newList ?_)
 have hoL : (s1.heap.push (seqObj "list" acc.toList.toArray 0)).get? s1.heap.objs.size=some (seqObj "list" acc.toList.toArray 0):=Heap.get?_push_size _ rfl
 show wpAny _ _ _ _ _ { s1 with heap:=s1.heap.push (seqObj "list" acc.toList.toArray 0) }
 have h64' : acc.toList.length < 64:=by rw [bQ,hit.1,hl]; exact h64
 refine wpAny_bind (wpAny_holding (wpAny_call_entry slot_list_sort ⟨_,hoL,rfl⟩ entry_list_sort (list_sort_tree hoL hI h64' fun out ns' a1 a2 a3=>⟨_,rfl,?_⟩) (args_list_sort _)))
 obtain ⟨e,he⟩:=sortedHeap_at (out:=out) hoL
 have fin:=h s1.heap _ s1.toks out.toList e ns' (fun b o' hb=>mv.heap b o' (fun z=>nomatch z) hb) (fun b o' hb=>?_) (by simpa [seqObj] using he) a1 a2 a3
 ·refine wpAny_pure ⟨_,rfl,?_⟩
  rw [es]
  exact fin
 ·have hlt : b < s1.heap.objs.size:=Heap.lt_size hb
  rw [sortedHeap_old (aH hlt) (by rw [size_push']; exact bz hlt)]
  exact Heap.get?_push_of_some _ hb
end
section
variable {X : Cx}
theorem z8X (hc : X.calm=true) : z5C X (.builtin "sorted") (fun xs H Q=>∃ (p : Addr) (kvs : List (Key × V)) (ns : List Int),xs=[.ref p]∧H p=some (.dK kvs)∧kvs.map (·.1)=ns.map Sum.inl∧ns.length < 64∧∀ l,H l=none->Q (.ref l) (upd H l (.lst ((z5F ns).map V.int)))):=by
 intro pins s σ H xs us Q I r h
 obtain ⟨p,kvs,ns,rfl,hq,hk,h64,q⟩:=h
 obtain ⟨u,rfl,rx⟩:=y2F r
 cases rx
 obtain ⟨_,hs,vs,rel,dd⟩:=dk_of I.hok hq
 obtain ⟨ep,da⟩:=dd.dictAt
 refine y0y (I.ok.hd hc) hs da (rel.keys.symm.trans hk) h64 fun h1 h' tk out e ns' k1 k2 ho hi hp hs'=>?_
 have es:=z4j hp hs'
 subst es
 have I1 : Inv X pins σ H { s with heap:=h1 }:=I.kept (t':=s.toks) k1
 refine ⟨.ref h1.objs.size,_,Inv.laid (s:={ s with heap:=h1 }) (t':=tk) I1 k2 (ar _) (show ObjOk X.prog X.w _ h' _ (.lst ((z5F ns).map V.int)) from ⟨?_,out,e,y6F hi,ho⟩),rfl,q _ (I1.hok.fresh (ar _))⟩
 rw [aq,hp.length_eq,sizeLine_eq]
 omega
noncomputable def z4J : List Key->Option (List Int)
 | []=>some []
 | .inl n :: r=>(z4J r).map fun ns=>n :: ns
 | .inr _ :: _=>none
theorem z6V : ∀ {ks : List Key} {ns : List Int},z4J ks=some ns->ks=ns.map Sum.inl
 | [],_,h=>by cases h; rfl
 | .inl n :: r,_,h=>by
  unfold z4J at h
  cases e : z4J r with
  | none=>rw [e] at h; cases h
  | some ns=>
   rw [e] at h
   cases h
   rw [aT,← z6V e]
 | .inr _ :: _,_,h=>by cases h
noncomputable def z9i : List D->Option (List D)
 | [.dct ks _]=>(z4J ks).bind fun ns=>if ns.length < 64 then some ((z5F ns).map .int) else none
 | _=>none
theorem y7E {K : aa} : OpL K (fun xs H Q=>∃ (p : Addr) (kvs : List (Key × V)) (ns : List Int),xs=[.ref p]∧H p=some (.dK kvs)∧kvs.map (·.1)=ns.map Sum.inl∧ns.length < 64∧∀ l,H l=none->Q (.ref l) (upd H l (.lst ((z5F ns).map V.int)))) z9i:=by
 intro H B ds es vs Q hB hr q k
 unfold z9i at q
 split at q
 ·rename_i ks ds'
  cases e : z4J ks with
  | none=>rw [e] at q; cases q
  | some ns=>
   rw [e,ax] at q
   split at q
   ·rename_i h64
    cases q
    obtain ⟨v,rfl,r⟩:=z4I hr
    unfold Rep at r
    obtain ⟨a,kvs,rfl,_,h,hk,_⟩:=r
    exact ⟨a,kvs,ns,rfl,h,by rw [hk,z6V e],h64,fun l hl=>k l _ _ (z0r hl) hl z0o (z1M _)⟩
   ·cases q
 ·cases q
variable {e : Expr} {f : DE} {p pos : Pos}
theorem y2A (hc : X.calm=true) (hg : Gl X "sorted") (hm : X.mg "sorted" = none) (h : PD X e f) (he : starEach [e] X.env=[(false,eval e X.env)]:=by rfl) : PF X (.Call (.Name "sorted" p) [e] [] pos) (z2G z9i [f]):=
 (z5P (z8X hc) hg hm boot_sorted (z0a h z0c he) (by decide) (by decide) he rfl).imp (callL y7E)
end
end L2
namespace L2
open PySem PySem.Spec PyProof.Rows
noncomputable def mkD1 : D->D->Option D
 | .int a,.int b=>some (.dct [.inl a] [.int b])
 | _,_=>none
noncomputable def y3L (fk fv : DE) : DE:=d2 mkD1 fk fv
section
variable {X : Cx} {ke ve : Expr} {pos : Pos} {f g : DE}
theorem y5W (hk : PD X ke f) (hv : PD X ve g) : PN X (.Dict [some ke] [ve] pos) (y3L f g):=(pe_disp (y6e hk hv pps_nil) rfl rfl (by simp) (by simp)).imp fun σ H Q z_=>by
 obtain ⟨δ,d,S,q,kk⟩:=z_
 obtain ⟨dx,dy,e1,e2,e3⟩:=y4P q
 unfold mkD1 at e3
 split at e3
 ·rename_i a b
  cases e3
  intro p hp
  have s0 : Same H (upd H p (.dK [])):=z0r hp
  refine ⟨noB,δ,_,.no,S.mono s0,e1,fun v H2 s2 r2=>⟨noB,δ,_,.no,(S.mono s0).mono s2,e2,fun u H3 s3 r3=>?_⟩⟩
  unfold Rep at r2 r3
  subst r2 r3
  have hp3 : H3 p=some (.dK []):=s3 _ _ (s2 _ _ z0o)
  refine ⟨hp3,[(.inl a,.int b)],rfl,by simp,?_⟩
  refine kk (.ref p) _ [p] (fun c o ec=>?_) ?_ (aC.mpr ⟨fun z=>(nomatch z),bf⟩) fun c hc=>?_
  ·have hcp : c≠p:=fun z=>by rw [z,hp] at ec; cases ec
   rw [z0t hcp]
   exact s3 _ _ (s2 _ _ (s0 _ _ ec))
  ·unfold Tree
   refine ⟨p,[(.inl a,.int b)],[],rfl,z0o,rfl,?_,rfl⟩
   unfold Trees
   exact ⟨.int b,[],[],[],rfl,⟨rfl,rfl⟩,⟨rfl,rfl⟩,rfl⟩
  ·rw [am.mp hc]; exact hp
 ·cases e3
end
theorem y4z {lo hi : Int} : Builtin.Range.rangeSize lo hi (-1)=(((lo - hi).toNat : Nat) : Int):=by
 unfold Builtin.Range.rangeSize
 rw [if_neg (by decide)]
 by_cases h : hi < lo
 ·rw [if_pos h]
  have : (lo - hi - 1) / 1=lo - hi - 1:=Int.ediv_one _
  simp only [Int.neg_neg]
  omega
 ·rw [if_neg h]
  omega
theorem y5f {a b : Int} (ha : -(2 ^ 61)≤a) (ha' : a < 2 ^ 61) (hb : -(2 ^ 61)≤b) (hb' : b < 2 ^ 61) : Builtin.Range.small a b (-1)=true:=by
 unfold Builtin.Range.small
 rw [y4z]
 simp only [Builtin.Range.rangeFitsLong,aJ,cq,decide_eq_true_eq,beq_iff_eq]
 rw [if_neg (by decide),aJ,decide_eq_true_eq,decide_eq_true_eq]
 omega
section
variable {X : Cx} {tg : Expr}
theorem y4T {pins : List (Addr × Obj)} {σ : St} {H : Hp} {s : Shared} {R : It->Hp->Prop} {E : Value->Shared->Prop} {lo hi : Int} {t u v : Tok} {tk : Nat} (I : Inv X pins σ H s) (h1 : -(2 ^ 61)≤lo) (h2 : lo < 2 ^ 61) (h3 : -(2 ^ 61)≤hi) (h4 : hi < 2 ^ 61)
  (q : R (Itr3 lo (-1) (lo - hi).toNat) H) : wpAny (model X.prog X.w) X.A (pyIter (.ref s.heap.objs.size)) (PIE X pins σ tg R) E { s with heap:=s.heap.push { cls:=.type "range",data:=.fields #[.int lo t,.int hi u,.int (-1) v] },toks:=tk }:=by
 refine wpAny_pyIter_range (IsRange.new ..) (y5f h1 h2 h3 h4) ?_
 have I1 : Inv X pins σ H { s with heap:=s.heap.push { cls:=.type "range",data:=.fields #[.int lo t,.int hi u,.int (-1) v] },toks:=tk }:=I.kept fun b o e=>Heap.get?_push_of_some _ e
 refine ⟨(s.heap.push { cls:=.type "range",data:=.fields #[.int lo t,.int hi u,.int (-1) v] }).objs.size,[(s.heap.push { cls:=.type "range",data:=.fields #[.int lo t,.int hi u,.int (-1) v] }).objs.size],_,_,H,rfl,
  I1.kept (t':=tk) fun b o e=>Heap.get?_push_of_some _ e,y0b _ lo (-1) (lo - hi).toNat,?_,fun b hb=>?_,q⟩
 ·have e1 : lo + ((0 : Nat) : Int) * (-1)=lo:=by simp
  have e2 : (((lo - hi).toNat : Nat) : Int) - ((0 : Nat) : Int)=Builtin.Range.rangeSize lo hi (-1):=by rw [y4z]; simp
  show IsRangeIter _ _ (lo + ((0 : Nat) : Int) * (-1)) ((((lo - hi).toNat : Nat) : Int) - ((0 : Nat) : Int)) (-1)
  rw [e1,e2]
  exact Heap.get?_push_size _ rfl
 ·have e : b=(s.heap.push { cls:=.type "range",data:=.fields #[.int lo t,.int hi u,.int (-1) v] }).objs.size:=by simpa using hb
  subst e
  exact I1.fpOk (ar _) (I1.hok.fresh (ar _))
noncomputable def iRngN (ta : TA) : TI:=fun σ H R=>ta σ H fun vs H1=>∃ i j : Int,vs=[.int i,.int j,.int (-1)]∧(-(2 ^ 61)≤i∧i < 2 ^ 61∧-(2 ^ 61)≤j∧j < 2 ^ 61)∧R (Itr3 i (-1) (i - j).toNat) H1
theorem y3H {a b c : Expr} {ta : TA} {p pos : Pos} (hg : Gl X "range") (hm : X.mg "range" = none) (ha : PA X [a,b,c] ta) (hs : starEach [a,b,c] X.env=(false,eval a X.env) :: starEach [b,c] X.env:=by rfl) (hpl : (backTo pos (starEach [b,c] X.env)).any (·.1)=false:=by rfl) :
  PI X tg (.Call (.Name "range" p) [a,b,c] [] pos) (iRngN ta):=by
 intro pins s σ H R I h
 refine Call_ (z4H I hg hm boot_range (PyProof.Rows.callWith_type1 (thn (ha pos pins s σ H _ I h) fun us s1 ⟨vs,H1,I1,r1,q1⟩=>?_) hs hpl))
 obtain ⟨i,j,e,hb,q⟩:=q1
 subst e
 obtain ⟨u,v,w,rfl,⟨t1,rfl⟩,⟨t2,rfl⟩,⟨t3,rfl⟩⟩:=r1.three
 exact call_range_3 (by omega) (y4T I1 hb.1 hb.2.1 hb.2.2.1 hb.2.2.2 q) (.inl (PyProof.noPylong_small (by omega)))
noncomputable def rngN : Option D->Option D->Option D->Option (List D)
 | some (.int i),some (.int j),some (.int c)=>if c = -1∧-(2 ^ 61)≤i∧i < 2 ^ 61∧-(2 ^ 61)≤j∧j < 2 ^ 61 then some (y4E i (-1) (i - j).toNat) else none
 | _,_,_=>none
noncomputable def y6J (f g h : DE) : DS->Option (List D):=fun δ=>rngN (f δ) (g δ) (h δ)
theorem pi_rngN {a b c : Expr} {f g h : DE} {p pos : Pos} (hg : Gl X "range") (hm : X.mg "range" = none) (ha : PD X a f) (hb : PD X b g) (hc : PD X c h) (hs : starEach [a,b,c] X.env=(false,eval a X.env) :: starEach [b,c] X.env:=by rfl) (hs2 : starEach [b,c] X.env=(false,eval b X.env) :: starEach [c] X.env:=by rfl) (hs3 : starEach [c] X.env=[(false,eval c X.env)]:=by rfl) (hpl : (backTo pos (starEach [b,c] X.env)).any (·.1)=false:=by rfl) :
  PID X tg (.Call (.Name "range" p) [a,b,c] [] pos) (y6J f g h):=
 (y3H hg hm (z0a ha (z0a hb (z0a hc z0c hs3) hs2) hs) hs hpl).imp fun σ H R z_=>by
  obtain ⟨B,δ,ds,hB,S,q,k⟩:=z_
  unfold y6J rngN at q
  split at q
  ·rename_i i j c e1 e2 e3
   split at q
   ·rename_i hj
    obtain ⟨rfl,hj⟩:=hj
    cases q
    have ea : z0q [f,g,h] δ=some [.int i,.int j,.int (-1)]:=by unfold z0q z0q z0q; rw [e1,e2,e3]; rfl
    refine ⟨B,δ,[.int i,.int j,.int (-1)],hB,S,ea,fun vs H1 s1 r1=>?_⟩
    unfold Reps at r1
    obtain ⟨x,r,rfl,rx,rr⟩:=r1
    unfold Reps at rr
    obtain ⟨y,r',rfl,ry,rr⟩:=rr
    unfold Reps at rr
    obtain ⟨z,r'',rfl,rz,rr⟩:=rr
    unfold Reps at rr
    subst rr
    exact ⟨i,j,by rw [show x=V.int i from rx,show y=V.int j from ry,show z=V.int (-1) from rz],hj,k _ H1 s1 fun C _=>y6Z⟩
   ·cases q
  ·cases q
end
section
variable {X : Cx} {a b : Expr} {pos : Pos} {f g : DE}
end
end L2
namespace L2
open PySem PySem.Spec PyProof.Rows
noncomputable def twoD : D->Option (D × D)
 | .tup [a,b]=>some (a,b)
 | _=>none
theorem y5B {d : D} {z : D × D} (h : twoD d=some z) : d = .tup [z.1,z.2]:=by
 unfold twoD at h
 split at h
 ·cases h; rfl
 ·cases h
noncomputable def z4Y (i j : Nat) (b : SS->Option Out) : List D->SS->Option Out
 | [],δ=>some (.nx δ)
 | d :: r,δ=>(twoD d).bind fun z=>(b ((δ.set i (some (.sh z.1))).set j (some (.sh z.2)))).bind fun o=>match o with
  | .nx δ'=>z4Y i j b r δ'
  | .ct δ'=>z4Y i j b r δ'
  | .bk δ'=>some (.nx δ')
  | .rt d=>some (.rt d)
  | .ex c δ'=>some (.ex c δ')
noncomputable def y6Q (i j : Nat) (f : DS->Option (List D)) (g : SS->Option Out) : SS->Option Out:=fun δ=>(f (shV δ)).bind fun ds=>z4Y i j g ds δ
section
variable {X : Cx} {H0 : Hp} {B0 : Addr->Prop} {fr : Bool} {RX : XR} {pos : Pos}
noncomputable def gPair (K : aa) (i j : Nat) : TG:=gTup K 2 (y4c (z2A i) (y4c (z2A j) gNil))
theorem s_for2 {i j : Nat} {tg : Expr} {iter : Expr} {body : List Stmt} {f : DS->Option (List D)} {g : SS->Option Out} (hp : PassesOwn (model X.prog X.w) X.A X.env X.xe) (hc : X.calm=true) (hi : PID X tg iter f) (hg : PG X tg (gPair X.K i j)) (hb : PSs X body (tS X.K H0 B0 fr RX g))
  (hs : ∀ x,foldedSetIterable iter X.env x=pure x:=by intro _; rfl) : PS X (.For tg iter body [] pos) (tS X.K H0 B0 fr RX (y6Q i j f g)):=PS.imp (y5o hp hc hi hg hb hs) fun D σ H z_=>by
 obtain ⟨δ,R,o,rs,q,k⟩:=z_
 unfold y6Q at q
 cases e : f (shV δ) with
 | none=>rw [e] at q; cases q
 | some ds=>
 rw [e] at q
 have q : z4Y i j g ds δ=some o:=q
 refine ⟨_,shV δ,ds,rs.inAll,rs.shr,e,fun J H1 s1 itw=>?_⟩
 have rs1:=rs.mono s1
 have it:=itw (fun a=>H1 a=none) fun a z=>z
 refine ⟨fun n m σ' H'=>m=ds.length - n∧n≤ds.length∧∃ δ' R',RS X.K H0 B0 H' σ' δ' R'∧Stp R H1 R' H'∧z4Y i j g (ds.drop n) δ'=some o,⟨ds.length,by simp,bA _,δ,R,rs1,.refl R H1,q⟩,?_⟩
 rintro n m σ' H' ⟨rfl,hn,δ',R',rs',s',q'⟩
 have kp : Keep X.K (fun a=>(B0 a∨∃ r,a∈R r)∨H1 a=none) H1 H':=s'.keepB (fun r a z=>.inl (.inr ⟨r,z⟩)) rs1.held
 by_cases hlt : n < ds.length
 ·have hx : ds.drop n=ds[n] :: ds.drop (n + 1):=bj hlt
  rw [hx] at q'
  unfold z4Y at q'
  cases et : twoD ds[n] with
  | none=>rw [et] at q'; cases q'
  | some z=>
  rw [et,ax] at q'
  cases eb : g ((δ'.set i (some (.sh z.1))).set j (some (.sh z.2))) with
  | none=>rw [eb] at q'; cases q'
  | some ob=>
   rw [eb] at q'
   refine .inr ⟨it.go n H' kp hlt,fun σ2 H2=>n + 1≤ds.length∧∃ δ2 R2,RS X.K H0 B0 H2 σ2 δ2 R2∧Stp R H1 R2 H2∧z4Y i j g (ds.drop (n + 1)) δ2=some o,fun σ2 H2 z=>⟨ds.length - (n + 1),by omega,rfl,z⟩,fun xv H2 hy=>?_⟩
   obtain ⟨s2,d,hd,rd⟩:=it.yld n H' xv H2 kp hy
   have hdi : d=ds[n]:=by
    have:=hd hlt
    rw [ae hlt] at this
    exact (Option.some.inj this).symm
   subst hdi
   have rd' : Rep X.K H2 (fun a=>B0 a∨∃ r,a∈R' r) ds[n] xv:=rd.anti fun a z=>by
    rcases z with z | ⟨r,z⟩
    ·exact .inl (.inl z)
    ·rcases s'.from' r a z with z | z
     ·exact .inl (.inr z)
     ·exact .inr z
   rw [y5B et] at rd'
   unfold Rep at rd'
   obtain ⟨p,vs,rfl,hsq,rvs⟩:=rd'
   unfold Reps at rvs
   obtain ⟨va,r1,rfl,ra,rvs⟩:=rvs
   unfold Reps at rvs
   obtain ⟨vb,r2,rfl,rb,rvs⟩:=rvs
   unfold Reps at rvs
   subst rvs
   refine ⟨p,[va,vb],rfl,hsq,rfl,va,[vb],rfl,vb,[],rfl,rfl,?_⟩
   have rs2:=((rs'.mono s2).setSh (i:=i) ra).setSh (i:=j) rb
   have st2 : Stp R H1 R' H2:=s'.trans (.same s2)
   refine ⟨_,R',ob,rs2,eb,?_⟩
   cases ob with
   | nx δ2=>
    have q2 : z4Y i j g (ds.drop (n + 1)) δ2=some o:=q'
    exact fun σ3 H3 R3 rs3 s3=>⟨hlt,δ2,R3,rs3,st2.trans s3,q2⟩
   | ct δ2=>
    have q2 : z4Y i j g (ds.drop (n + 1)) δ2=some o:=q'
    exact fun σ3 H3 R3 rs3 s3=>⟨hlt,δ2,R3,rs3,st2.trans s3,q2⟩
   | bk δ2=>
    cases q'
    exact fun σ3 H3 R3 rs3 s3=>k σ3 H3 R3 rs3 ((Stp.same s1).trans (st2.trans s3))
   | rt d=>
    cases q'
    exact k.back ((Stp.same s1).trans st2)
   | ex c δ2=>
    cases q'
    exact k.back ((Stp.same s1).trans st2)
 ·have en : n=ds.length:=by omega
  subst en
  rw [bV] at q'
  cases q'
  exact .inl ⟨it.stop _ H' kp (ar _),k σ' H' R' rs' ((Stp.same s1).trans s')⟩
theorem pg_pair {i j : Nat} {x y : Str} {px py tp : Pos} {x1} (hc : X.calm=true) (h1 : PG X (.Name x px) (z2A i)) (h2 : PG X (.Name y py) (z2A j))
  (hs : (assignEach [.Name x px,.Name y py] X.env).map (·.2)=assign (.Name x px) X.env :: (assignEach [.Name y py] X.env).map (·.2):=by rfl) (hs2 : (assignEach [.Name y py] X.env).map (·.2)=assign (.Name y py) X.env :: (assignEach [] X.env).map (·.2):=by rfl)
  (hn : (assignEach [.Name x px,.Name y py] X.env).length=2:=by rfl) (hst : (assignEach [.Name x px,.Name y py] X.env).findIdx? (·.1)=none:=by rfl) : PG X (.Tuple [.Name x px,.Name y py] x1 tp) (gPair X.K i j):=
 y8G hc (z5E h1 (z5E h2 y4W hs2) hs) hn hst
end
end L2
namespace L2
open PySem PySem.Spec PyProof.Rows
section
variable {X : Cx}
variable {e : Expr} {f : DE} {p pos : Pos}
end
end L2
namespace L2
open PySem PySem.Spec PyProof.Rows
section
variable {X : Cx} {e lo st : Expr} {te : TE} {tl tk : TO} {pos p2 : Pos}
variable {f g h : DE}
end
end L2
namespace L2
open PySem PySem.Spec PyProof.Rows
noncomputable def bigL : Nat:=2 ^ 250
noncomputable def CMulB (i j : Int) : Prop:=i.natAbs < bigL∧j.natAbs < bigL
noncomputable instance {i j : Int} : Decidable (CMulB i j):=by unfold CMulB; infer_instance
section
variable {X : Cx} {a b : Expr} {pos : Pos} {f g : DE}
end
end L2
namespace L2
open PySem PySem.Spec PyProof.Rows
section
variable {X : Cx} {tg iter a b : Expr} {p pos pos' : Pos}
structure ItF (J : It) (lo : Int) (n : Nat) : Prop where
 go : ∀ i H',i < n->J.go i H'
 stop : ∀ i H',n≤i->J.stop i H'
 yld : ∀ i H' x H2,J.yld i H' x H2->Same H' H2∧x = .int (lo + (i : Int))
theorem itf_rng {lo : Int} {n : Nat} : ItF (Itr lo n) lo n:=⟨fun i H' hi=>hi,fun i H' hi=>hi,fun i H' x H2 y=>by
 obtain ⟨e,y⟩:=y
 subst e y
 exact ⟨.refl _,rfl⟩⟩
noncomputable def tIF (K : aa) (f : DS->Option (Int × Nat)) : TI:=fun σ H R=>∃ B δ z,InB B H∧RepS K H B σ δ∧f δ=some z∧∀ J H',Same H H'->ItF J z.1 z.2->R J H'
noncomputable abbrev PIF (X : Cx) (tg iter : Expr) (f : DS->Option (Int × Nat)) : Prop:=PI X tg iter (tIF X.K f)
noncomputable def dIv1 (f : DE) : DS->Option (Int × Nat):=fun δ=>match f δ with
 | some (.int j)=>if -(2 ^ 62)≤j∧j < 2 ^ 62 then some (0,j.toNat) else none
 | _=>none
theorem y1v {f : DE} (hg : Gl X "range") (hm : X.mg "range" = none) (ha : PD X a f) (hs : starEach [a] X.env=[(false,eval a X.env)]:=by rfl) : PIF X tg (.Call (.Name "range" p) [a] [] pos) (dIv1 f):=
 (z9G hg hm (z0a ha z0c hs) hs).imp fun σ H R z_=>by
  obtain ⟨B,δ,ds,hB,S,q,k⟩:=z_
  unfold dIv1 at q
  split at q
  ·rename_i j e
   split at q
   ·rename_i hj
    cases q
    have ea : z0q [f] δ=some [.int j]:=by unfold z0q; rw [e]; rfl
    refine ⟨B,δ,[.int j],hB,S,ea,fun vs H1 s1 r1=>?_⟩
    unfold Reps at r1
    obtain ⟨x,r,rfl,rx,rr⟩:=r1
    unfold Reps at rr
    subst rr
    exact ⟨j,by rw [show x=V.int j from rx],hj.1,hj.2,k _ H1 s1 itf_rng⟩
   ·cases q
  ·cases q
noncomputable def forI (i : Nat) (f : DS->Option (Int × Nat)) (b : SS->Option Out) : SS->Option Out:=fun δ=>(f (z0u δ)).bind fun z=>z5z i b (z4A z.1 z.2) δ
variable {H0 : Hp} {B0 : Addr->Prop} {fr : Bool} {RX : XR}
theorem y8u {i : Nat} {x : Str} {px : Pos} {body : List Stmt} {f : DS->Option (Int × Nat)} {g : SS->Option Out} (hp : PassesOwn (model X.prog X.w) X.A X.env X.xe) (hc : X.calm=true) (hi : PIF X (.Name x px) iter f) (hg : PG X (.Name x px) (z2A i)) (hb : PSs X body (tS X.K H0 B0 fr RX g))
  (hs : ∀ x,foldedSetIterable iter X.env x=pure x:=by intro _; rfl) : PS X (.For (.Name x px) iter body [] pos) (tS X.K H0 B0 fr RX (forI i f g)):=PS.imp (y5o hp hc hi hg hb hs) fun D σ H z_=>by
 obtain ⟨δ,R,o,rs,q,k⟩:=z_
 unfold forI at q
 cases e : f (z0u δ) with
 | none=>rw [e] at q; cases q
 | some z=>
 rw [e] at q
 obtain ⟨ds,hds⟩ : ∃ ds,ds=z4A z.1 z.2:=⟨_,rfl⟩
 have hlen : ds.length=z.2:=by rw [hds,z3q]
 have q : z5z i g ds δ=some o:=by rw [hds]; exact q
 refine ⟨noB,z0u δ,z,.no,rs.all,e,fun J H1 s1 it=>?_⟩
 have rs1:=rs.mono s1
 refine ⟨fun n m σ' H'=>m=ds.length - n∧n≤ds.length∧∃ δ' R',RS X.K H0 B0 H' σ' δ' R'∧Stp R H1 R' H'∧z5z i g (ds.drop n) δ'=some o,⟨ds.length,by simp,bA _,δ,R,rs1,.refl R H1,q⟩,?_⟩
 rintro n m σ' H' ⟨rfl,hn,δ',R',rs',s',q'⟩
 by_cases hlt : n < ds.length
 ·have hx : ds.drop n=ds[n] :: ds.drop (n + 1):=bj hlt
  rw [hx] at q'
  unfold z5z at q'
  cases eb : g (δ'.set i (some (.sh ds[n]))) with
  | none=>rw [eb] at q'; cases q'
  | some ob=>
   rw [eb] at q'
   refine .inr ⟨it.go n H' (by omega),fun σ2 H2=>n + 1≤ds.length∧∃ δ2 R2,RS X.K H0 B0 H2 σ2 δ2 R2∧Stp R H1 R2 H2∧z5z i g (ds.drop (n + 1)) δ2=some o,fun σ2 H2 z=>⟨ds.length - (n + 1),by omega,rfl,z⟩,fun xv H2 hy=>?_⟩
   obtain ⟨s2,hd⟩:=it.yld n H' xv H2 hy
   have hdi : ds[n] = .int (z.1 + (n : Int)):=by
    have h1 : ds[n]? = some (.int (z.1 + (n : Int))):=by rw [hds]; exact y1N (by omega)
    rw [ae hlt] at h1
    exact Option.some.inj h1
   have rd' : Rep X.K H2 (fun a=>B0 a∨∃ r,a∈R' r) ds[n] xv:=by
    rw [hdi]
    exact hd
   have rs2:=(rs'.mono s2).setSh (i:=i) rd'
   have st2 : Stp R H1 R' H2:=s'.trans (.same s2)
   refine ⟨_,R',ob,rs2,eb,?_⟩
   cases ob with
   | nx δ2=>
    have q2 : z5z i g (ds.drop (n + 1)) δ2=some o:=q'
    exact fun σ3 H3 R3 rs3 s3=>⟨hlt,δ2,R3,rs3,st2.trans s3,q2⟩
   | ct δ2=>
    have q2 : z5z i g (ds.drop (n + 1)) δ2=some o:=q'
    exact fun σ3 H3 R3 rs3 s3=>⟨hlt,δ2,R3,rs3,st2.trans s3,q2⟩
   | bk δ2=>
    cases q'
    exact fun σ3 H3 R3 rs3 s3=>k σ3 H3 R3 rs3 ((Stp.same s1).trans (st2.trans s3))
   | rt d=>
    cases q'
    exact k.back ((Stp.same s1).trans st2)
   | ex c δ2=>
    cases q'
    exact k.back ((Stp.same s1).trans st2)
 ·have en : n=ds.length:=by omega
  subst en
  rw [bV] at q'
  cases q'
  exact .inl ⟨it.stop _ H' (by omega),k σ' H' R' rs' ((Stp.same s1).trans s')⟩
noncomputable def ret3 (i j l : Nat) : SS->Option Out:=fun δ=>match z6X δ i,z6X δ j,z6X δ l with
 | some d,some e,some f=>some (.rt (.lst [d,e,f]))
 | _,_,_=>none
variable {c : Expr}
theorem s_ret3 {i j l : Nat} (hij : i≠j) (hil : i≠l) (hjl : j≠l) (ha : PE X a (z7x i)) (hb : PE X b (z7x j)) (hc : PE X c (z7x l)) (hs : starEach [a,b,c] X.env=(false,eval a X.env) :: starEach [b,c] X.env:=by rfl) (hs2 : starEach [b,c] X.env=(false,eval b X.env) :: starEach [c] X.env:=by rfl) (hs3 : starEach [c] X.env=(false,eval c X.env) :: starEach [] X.env:=by rfl) :
  PS X (.Return (some (.List [a,b,c] pos')) pos) (tS X.K H0 B0 true RX (ret3 i j l)):=PS.imp (z7c (y4I (z1x ha (z1x hb (z1x hc pa_nil hs3) hs2) hs))) fun D σ H z_=>by
 obtain ⟨δ,R,o,rs,q,k⟩:=z_
 unfold ret3 at q
 split at q
 ·rename_i d e f h1 h2 h3
  cases q
  obtain ⟨v,A,e1,t1,n1,m1⟩:=z5M rs h1
  obtain ⟨w,C,e2,t2,n2,m2⟩:=z5M rs h2
  obtain ⟨u,G,e3,t3,n3,m3⟩:=z5M rs h3
  refine ⟨v,e1,w,e2,u,e3,by show 3≤sizeLine; rw [sizeLine_eq]; omega,fun p hp=>?_⟩
  have sp:=z0r (o:=.lst [v,w,u]) hp
  have hold : ∀ x,x∈A ++ (C ++ G)->H x≠none:=fun x hx z=>by
   rcases aF.mp hx with y | y
   ·obtain ⟨o,q,_⟩:=t1.held _ x y
    rw [z] at q; cases q
   rcases aF.mp y with y | y
   ·obtain ⟨o,q,_⟩:=t2.held _ x y
    rw [z] at q; cases q
   ·obtain ⟨o,q,_⟩:=t3.held _ x y
    rw [z] at q; cases q
  have nd : (A ++ (C ++ G)).Nodup:=by
   refine ba.mpr ⟨n1,ba.mpr ⟨n2,n3,fun x hx y hy z=>?_⟩,fun x hx y hy z=>?_⟩
   ·subst z
    exact hjl (rs.disj j l x (m2 x hx) (m3 x hy))
   ·subst z
    rcases aF.mp hy with y | y
    ·exact hij (rs.disj i j x (m1 x hx) (m2 x y))
    ·exact hil (rs.disj i l x (m1 x hx) (m3 x y))
  refine k (.ref p) _ ⟨rs.keep.trans sp,fun _=>⟨p :: (A ++ (C ++ G)),?_,aC.mpr ⟨fun z=>hold p z hp,nd⟩,fun x hx=>?_⟩,fun z=>by cases z⟩ fun x z=>sp.free z
  ·unfold Tree
   refine ⟨p,[v,w,u],A ++ (C ++ G),rfl,z0o,?_,rfl⟩
   unfold Trees
   refine ⟨v,[w,u],A,C ++ G,rfl,t1.mono sp,?_,rfl⟩
   unfold Trees
   refine ⟨w,[u],C,G,rfl,t2.mono sp,?_,rfl⟩
   unfold Trees
   exact ⟨u,[],G,[],rfl,t3.mono sp,⟨rfl,rfl⟩,by simp⟩
  ·rcases ai.mp hx with z | z
   ·rw [z]; exact rs.keep.free hp
   ·rcases aF.mp z with z | z
    ·exact rs.new i x (m1 x z)
    rcases aF.mp z with z | z
    ·exact rs.new j x (m2 x z)
    ·exact rs.new l x (m3 x z)
 ·cases q
end
end L2
namespace L2
open PySem PySem.Spec PyProof.Rows
section
variable {X : Cx} {a b : Expr} {pos : Pos} {f g : DE}
end
end L2
namespace HT
open PySem PySem.Spec PyProof.Rows
section
variable {prog : Program} {w : World} {A : Around} {E : Value->Shared->Prop} {s : Shared}
end
end HT
namespace L2
open PySem PySem.Spec PyProof.Rows
section
variable {X : Cx} {e a b : Expr} {lo hi : Option Expr} {p p2 pos : Pos}
variable {f : DE}
end
end L2
namespace PySem
namespace SetTable
noncomputable def Up (xs : Array Nat) : Prop:=xs.toList.Pairwise (· < ·)
theorem up_le {xs : Array Nat} (h : Up xs) {i k : Nat} (hi : i < k) (hk : k < xs.size) (d : Nat) : xs.getD i d < xs.getD k d:=by
 have h1 : i < xs.toList.length:=by simp; omega
 have h2 : k < xs.toList.length:=by simpa using hk
 have:=bX.mp h i k h1 h2 hi
 rw [bT,bT,aX (show i < xs.size by omega),aX hk]
 simpa using this
theorem y0g {xs : Array Nat} (h : Up xs) (j : Nat) : ∀ (f lo hi : Nat),hi - lo≤f->lo≤hi->hi≤xs.size->(∀ i,i < lo->xs.getD i j < j)->(∀ i,hi≤i->i < xs.size->j≤xs.getD i j) →
  (∀ i,i < below.go xs j f lo hi->xs.getD i j < j)∧(∀ i,below.go xs j f lo hi≤i->i < xs.size->j≤xs.getD i j)∧below.go xs j f lo hi≤xs.size
 | 0,lo,hi,h1,h2,h3,h4,h5=>by
  unfold below.go
  have e : lo=hi:=by omega
  subst e
  exact ⟨h4,h5,h3⟩
 | f + 1,lo,hi,h1,h2,h3,h4,h5=>by
  unfold below.go
  by_cases hl : lo < hi
  ·rw [if_pos hl]
   have hm1 : lo≤(lo + hi) / 2:=by omega
   have hm2 : (lo + hi) / 2 < hi:=by omega
   generalize (lo + hi) / 2=mid at hm1 hm2
   show _∧_∧_
   by_cases hx : xs.getD mid j < j
   ·simp only [hx,if_true]
    refine y0g h j f (mid + 1) hi (by omega) (by omega) h3 (fun i hi'=>?_) h5
    rcases dZ i mid with z | z
    ·exact dY (up_le h z (by omega) j) hx
    ·have : i=mid:=by omega
     rw [this]; exact hx
   ·simp only [hx,if_false]
    refine y0g h j f lo mid (by omega) hm1 (by omega) h4 fun i h6 h7=>?_
    rcases dZ mid i with z | z
    ·have:=up_le h z h7 j
     omega
    ·have : i=mid:=by omega
     rw [this]; omega
  ·rw [if_neg hl]
   have e : lo=hi:=by omega
   subst e
   exact ⟨h4,h5,h3⟩
theorem below_spec {xs : Array Nat} (h : Up xs) (j : Nat) : (∀ i,i < below xs j->xs.getD i j < j)∧(∀ i,below xs j≤i->i < xs.size->j≤xs.getD i j)∧below xs j≤xs.size:=
 y0g h j xs.size 0 xs.size (by omega) (bA _) (ar _) (fun i hi=>absurd hi (by omega)) fun i h1 h2=>absurd h2 (by omega)
noncomputable def NL (t : SetTable) (j : Nat) : Prop:=t.place[below t.place j]?≠some j
theorem insert_up {xs : Array Nat} (h : Up xs) {j : Nat} (hn : xs[below xs j]?≠some j) : Up (insertAt xs (below xs j) j):=by
 obtain ⟨a,b,c⟩:=below_spec h j
 unfold Up
 rw [toList_insertAt]
 generalize below xs j=p at *
 have gt : ∀ i (hi : i < xs.toList.length),xs.getD i j=xs.toList[i]:=fun i hi=>by
  rw [bT,aX (by simpa using hi)]
  simp
 have low : ∀ x∈xs.toList.take p,x < j:=fun x hx=>by
  obtain ⟨i,hi,rfl⟩:=bU.mp hx
  rw [cH] at hi
  rw [List.getElem_take,← gt i (by omega)]
  exact a i (by omega)
 have high : ∀ x∈xs.toList.drop p,j < x:=fun x hx=>by
  obtain ⟨i,hi,rfl⟩:=bU.mp hx
  rw [dc] at hi
  rw [List.getElem_drop,← gt (p + i) (by omega)]
  have h1:=b (p + i) (by omega) (by simp at hi; omega)
  by_cases hi0 : i=0
  ·subst hi0
   have h2 : xs[p]? = some (xs.getD p j):=by
    rw [bT,aX (by simp at hi; omega)]
    rfl
   have h3 : xs.getD p j≠j:=fun z=>hn (by rw [h2,z])
   rw [Nat.add_zero] at h1 ⊢
   omega
  ·have h2:=up_le h (show p < p + i by omega) (by simp at hi; omega) j
   have h3:=b p (ar _) (by simp at hi; omega)
   omega
 refine eu.mpr ⟨h.sublist (List.take_sublist ..),aU.mpr ⟨high,h.sublist (List.drop_sublist ..)⟩,fun x hx y hy=>?_⟩
 rcases ai.mp hy with z | z
 ·rw [z]; exact low x hx
 ·exact dY (low x hx) (high y z)
theorem y5x {t : SetTable} {j : Nat} (h : ∀ i,t.slot j≠.live i) : NL t j:=fun z=>by
 refine h (below t.place j) ?_
 unfold slot
 show (if (t.place[below t.place j]? == some j)=true then _ else _)=_
 rw [if_pos (by rw [z]; simp)]
theorem go_nl {t : SetTable} {ha : Nat->Int} {hh : Int} : ∀ {f : Nat} {p : Probe} {j : Nat} {d : Option Nat},(∀ x,p.dummy=some x->NL t x)->probe.go t ha hh f p=some (.empty j d)->NL t (d.getD j)
 | 0,p,j,d,hp,h=>by unfold probe.go at h; cases h
 | f + 1,p,j,d,hp,h=>by
  unfold probe.go at h
  have adv : ∀ q : Probe,(t.advance q).dummy=q.dummy:=fun q=>by
   unfold advance
   split <;> rfl
  cases e : t.slot p.j with
  | empty=>
   rw [e] at h
   cases h
   cases hd : p.dummy with
   | none=>
    refine y5x fun i z=>?_
    have z : t.slot p.j = .live i:=z
    rw [e] at z
    cases z
   | some x=>exact hp x hd
  | dummy=>
   rw [e] at h
   refine go_nl (fun x hx=>?_) h
   rw [adv] at hx
   cases hx
   exact y5x fun i z=>by rw [e] at z; cases z
  | live i=>
   rw [e] at h
   have h : (if (ha i == hh)=true then some (Met.candidate p.j i (t.advance p)) else probe.go t ha hh f (t.advance p))=some (.empty j d):=h
   split at h
   ·cases h
   ·exact go_nl (fun x hx=>hp x (by rw [adv] at hx; exact hx)) h
end SetTable
noncomputable def TI (t : SetTable) : Prop:=t.led=true∧(t.plain=true->SetTable.Up t.place)
theorem z4a {t : SetTable} {n : Nat} (h : TI t) : TI (t.standIn n):=⟨h.1,fun z=>by cases z⟩
theorem z9l {t : SetTable} {n : Nat} (h : TI t) : TI (t.orStandIn n):=by
 unfold SetTable.orStandIn
 split
 ·exact h
 ·exact z4a h
theorem y3y {t : SetTable} {es : Array (Int × Value)} {h : Int} {x : Value} (ht : TI t) : TI (layNew t es h x).2.1:=by
 unfold layNew
 cases e : t.freeSlot h with
 | none=>exact z4a ht
 | some z=>
  obtain ⟨slot,wd⟩:=z
  have nl : SetTable.NL t slot:=by
   unfold SetTable.freeSlot at e
   split at e
   ·rename_i j d ep
    cases e
    exact SetTable.go_nl (fun x hx=>by cases hx) ep
   ·cases e
  show TI ((t.put slot).1.orStandIn _)
  refine z9l ⟨ht.1,fun hp=>?_⟩
  exact SetTable.insert_up (ht.2 hp) nl
theorem y0u {f : Nat->Option Nat} : ∀ l : List Nat,(l.filterMap fun j=>(f j).map fun z=>(j,z)).map (·.1)=l.filter fun j=>(f j).isSome
 | []=>rfl
 | j :: l=>by
  rw [bZ,bB]
  cases e : f j with
  | none=>simpa [e] using y0u l
  | some z=>simpa [e] using y0u l
theorem y0V {t : SetTable} {es : Array (Int × Value)} {n : Nat} (ht : TI t) : TI (relayAll t es n).2.1:=by
 unfold relayAll
 cases e : t.relaid (es.map (·.1)) n with
 | none=>exact z4a ht
 | some z=>
  obtain ⟨t',order⟩:=z
  show TI (if _ then _ else _ : Array (Int × Value) × SetTable × Bool).2.1
  split
  ·unfold SetTable.relaid SetTable.laid at e
   cases ho : SetTable.layClean (SetTable.sizeAbove n - 1) (es.map (·.1)) with
   | none=>rw [ho] at e; cases e
   | some ow=>
    rw [ho] at e
    cases e
    refine ⟨ht.1,fun _=>?_⟩
    unfold SetTable.Up
    show List.Pairwise _ (((ag _).filterMap fun j=>(ow.getD j none).map fun z=>(j,z)).map (·.1))
    rw [y0u]
    exact List.Pairwise.filter _ br
  ·exact z4a ht
theorem y5U : TI (SetTable.fresh 0 0 true):=⟨rfl,fun _=>List.Pairwise.nil⟩
end PySem
namespace PySem
section
variable {prog : Program} {w : World} {K : Type} [DecidableEq K] (knd : KeyKind prog w K)
noncomputable def Heap.SetW (g : Heap) (a : Addr) (S : K->Bool) (n : Nat) : Prop:=
 ∃ ob xs ep tb,g.get? a=some ob∧ob.ExactSet∧ob.data = .set xs ep tb∧ElemsOf knd xs.toList∧(∀ k,S k=true↔∃ e∈xs.toList,knd.is k e.2=true)
  ∧ xs.size < scanBound∧tb.fits xs.size=true∧xs.size=n∧(w.params.followText "set-order" = true∨TI tb)
variable {knd} {A : Around} {E : Value->Shared->Prop} {s : Shared}
theorem z7b {g : Heap} {a : Addr} {ob : Obj} {xs ys : Array (Int × Value)} {ep : Nat} {tb tc : SetTable} {S' : K->Bool} (g1 : g.get? a=some ob) (g2 : ob.ExactSet) (g3 : ob.data = .set xs ep tb)
  (k1 : ElemsOf knd ys.toList) (k2 : ∀ k,S' k=true↔∃ e∈ys.toList,knd.is k e.2=true) (k3 : ys.size < scanBound) (k4 : tc.fits ys.size=true) (k5 : w.params.followText "set-order" = true∨TI tc) :
  (g.update a (Obj.putSet ys tc)).get? a=some { ob with data:=.set ys (ep + 1) tc }∧(g.update a (Obj.putSet ys tc)).SetW knd a S' ys.size:=by
 obtain ⟨e1,_⟩:=SetOf_store (knd:=knd) g1 g2 g3 k1 k2 k3 k4
 exact ⟨e1,_,ys,ep + 1,tc,e1,g2,rfl,k1,k2,k3,k4,rfl,k5⟩
theorem y1X {gw : Bool->Sem Unit} (hgw : ∀ (b : Bool) (s₁ : Shared) (Q' : Unit->Shared->Prop),Q' () s₁->wpAny (model prog w) A (gw b) Q' E s₁)
  {a : Addr} {ob : Obj} {xs ys : Array (Int × Value)} {ep : Nat} {tb tc : SetTable} {S' : K->Bool} (g1 : s.heap.get? a=some ob) (g2 : ob.ExactSet) (g3 : ob.data = .set xs ep tb)
  (k1 : ElemsOf knd ys.toList) (k2 : ∀ k,S' k=true↔∃ e∈ys.toList,knd.is k e.2=true) (k3 : ys.size < scanBound) (k4 : tc.fits ys.size=true) (k5 : w.params.followText "set-order" = true∨TI tc) {wd : Bool} {R : Option Bool->Shared->Prop}
  (fin : ∀ g',Heap.SameBut a s.heap g'->g'.SetW knd a S' ys.size->R (some true) { s with heap:=g' }) :
  wpAny (model prog w) A (do
    storeSet a ys tc
    if (!wd && tc.tooFull)=true then do
      gw (relayAll tc ys (SetTable.grown ys.size)).2.2
      storeSet a (relayAll tc ys (SetTable.grown ys.size)).1 (relayAll tc ys (SetTable.grown ys.size)).2.1
      pure (some true)
     else pure (some true)) R E s:=by
 refine wpAny_bind (wpAny_storeSet_of g1 g3 ?_ (fits_of_scanBound k3))
 obtain ⟨o1,w1⟩:=z7b (knd:=knd) g1 g2 g3 k1 k2 k3 k4 k5
 have sb:=Heap.SameBut.update s.heap a (Obj.putSet ys tc)
 split
 ·have rp:=relayAll_perm tc ys (SetTable.grown ys.size)
  have rf:=relayAll_fits tc ys (SetTable.grown ys.size)
  have rt : w.params.followText "set-order" = true∨TI (relayAll tc ys (SetTable.grown ys.size)).2.1:=k5.imp id y0V
  generalize relayAll tc ys (SetTable.grown ys.size)=Z at rp rf rt ⊢
  obtain ⟨zs,td,gv⟩:=Z
  dsimp only at rp rf rt ⊢
  have m1 : ElemsOf knd zs.toList:=k1.perm rp
  have m2 : ∀ k',S' k'=true↔∃ e∈zs.toList,knd.is k' e.2=true:=fun k'=>(k2 k').trans ⟨fun ⟨e,he,q⟩=>⟨e,rp.mem_iff.mpr he,q⟩,fun ⟨e,he,q⟩=>⟨e,rp.mem_iff.mp he,q⟩⟩
  have sz : zs.size=ys.size:=by simpa using rp.length_eq
  have m3 : zs.size < scanBound:=sz ▸ k3
  refine wpAny_bind (hgw _ _ _ ?_)
  refine wpAny_bind (wpAny_storeSet_of o1 rfl ?_ (fits_of_scanBound m3))
  obtain ⟨_,w2⟩:=z7b (knd:=knd) o1 g2 rfl m1 m2 m3 rf rt
  rw [sz] at w2
  exact wpAny_pure (fin _ (sb.trans (Heap.SameBut.update _ a _)) w2)
 ·exact wpAny_pure (fin _ sb w1)
theorem addW {a : Addr} {S : K->Bool} {n : Nat} {k : K} {x : Value} {Q : Bool->Shared->Prop} (kx : knd.is k x=true) (sx : x.scannable=true) (hS : s.heap.SetW knd a S n) (room : n + 1 < scanBound)
  (fin : ∀ g',Heap.SameBut a s.heap g'->g'.SetW knd a (fun k'=>S k' || decide (k'=k)) (if S k then n else n + 1)->Q (!S k) { s with heap:=g' }) :
  wpAny (model prog w) A (setAddHashed a x (knd.hash k)) Q E s:=by
 obtain ⟨ob,xs,ep,tb,g1,g2,g3,g4,g5,g6,g7,g8,g9⟩:=hS
 have room' : xs.size + 1 < scanBound:=by omega
 unfold setAddHashed setAddHashedIn
 refine wpAny_holding (wpAny_bind (wpAny_setState_of g1 g3 g7 ?_))
 dsimp only
 rw [byScan_of sx g6 g4]
 simp only [↓reduceIte]
 unfold setAddByScan
 refine wpAny_bind ?_
 refine wpAny_bind (wpAny_rule ?_)
 refine wpAny_bind (wpAny_setScan_of kx g1 g3 g7 g4 ?_)
 cases fi : List.findIdx? (fun e=>knd.is k e.2) xs.toList with
 | some j=>
  dsimp only
  obtain ⟨hj,hp,_⟩:=List.findIdx?_eq_some_iff_getElem.mp fi
  have yes : S k=true:=(g5 k).mpr ⟨xs.toList[j],bh hj,hp⟩
  refine wpAny_pure (wpAny_pure ?_)
  have z:=fin s.heap (Heap.SameBut.refl a s.heap) ⟨ob,xs,ep,tb,g1,g2,g3,g4,fun k'=>by
   rw [cq,decide_eq_true_eq,← g5 k']
   exact ⟨fun q=>q.elim id fun e=>e ▸ yes,.inl⟩,g6,g7,by rw [yes]; exact g8,g9⟩
  rw [yes] at z
  exact z
 | none=>
  dsimp only
  have no : S k=false:=by
   rw [← cI]
   intro hk
   obtain ⟨e,he,hp⟩:=(g5 k).mp hk
   have:=List.findIdx?_eq_none_iff.mp fi e he
   rw [hp] at this
   cases this
  have gw : ∀ (b : Bool) (s₁ : Shared) (Q' : Unit->Shared->Prop),Q' () s₁->wpAny (model prog w) A (match b with | true=>rule "set.scan.the-table-gave-way" | false=>pure ()) Q' E s₁:=by
   intro b s₁ Q' hq
   cases b
   ·exact wpAny_pure hq
   ·exact wpAny_rule hq
  have lp:=layNew_perm tb xs (knd.hash k) x
  have lf:=layNew_fits tb xs (knd.hash k) x
  have lt : w.params.followText "set-order" = true∨TI (layNew tb xs (knd.hash k) x).2.1:=g9.imp id y3y
  generalize layNew tb xs (knd.hash k) x=L at lp lf lt ⊢
  obtain ⟨ys,tc,wd,gv⟩:=L
  dsimp only at lp lf lt ⊢
  rw [eM] at lp
  have m1 : ElemsOf knd ys.toList:=(g4.push kx sx).perm lp
  have m2 : ∀ k',(S k' || decide (k'=k))=true↔∃ e∈ys.toList,knd.is k' e.2=true:=mem_push_iff kx g5 lp
  have m0 : ys.size=n + 1:=by
   have:=lp.length_eq
   simp at this
   omega
  have m3 : ys.size < scanBound:=by omega
  refine wpAny_bind (gw _ _ _ ?_)
  have done : ∀ g',Heap.SameBut a s.heap g'->g'.SetW knd a (fun k'=>S k' || decide (k'=k)) ys.size->Q true { s with heap:=g' }:=fun g' sb z=>by
   have:=fin g' sb
   rw [no] at this
   rw [m0] at z
   exact this z
  split
  ·refine wpAny_bind ?_
   rw [hashByValue_scannable 8 sx]
   refine wpAny_pure ?_
   refine y1X gw g1 g2 g3 m1 m2 m3 ?_ ?_ fun g' sb z=>wpAny_pure (done g' sb z)
   ·split
    ·exact lf
    ·exact SetTable.fits_plain_off lf
   ·split
    ·exact lt
    ·exact lt.imp id fun z=>⟨z.1,fun q=>by cases q⟩
  ·refine wpAny_bind (wpAny_pure ?_)
   simp only [↓reduceIte]
   exact y1X gw g1 g2 g3 m1 m2 m3 lf lt fun g' sb z=>wpAny_pure (done g' sb z)
end
section
variable {prog : Program} {w : World} {A : Around} {R : Result->Shared->Prop} {I : Addr} {fp wr : List Addr} {G : Array GenState->Array GenState->Prop} {n : Nat} {P : Nat->Value->Prop} {St : Nat->Shared->Prop}
open PyProof.Rows in
theorem updateW (W : WalksS prog w A.in1 I fp wr G n P St) (a : Addr) (af : a ∉ fp) (val : Nat->Int) (hv : ∀ i v,P i v->∃ t,v = .int (val i) t) (hb : n + 1 < scanBound) :
  ∀ (k i : Nat) (s : Shared),n - i=k->i≤n->St i s->s.heap.SetW (intKind prog w) a (fun z=>(firstMet val i).any (· == z)) (firstMet val i).length →
   (∀ s',Moved (a :: wr) G s s'->s'.heap.SetW (intKind prog w) a (fun z=>(firstMet val n).any (· == z)) (firstMet val n).length->R (.ok (.ret .none)) s') →
   codeAny (model prog w) A (.builtin "set.update.loop" ⟨[.ref a,.ref I],[]⟩) R s:=by
 have aw : a ∉ wr:=fun z=>af (W.sub _ z)
 have sub : ∀ b∈wr,b∈a :: wr:=fun b z=>ak _ z
 have keep : ∀ {s s' : Shared} {S : Int->Bool} {m : Nat},Moved wr G s s'->s.heap.SetW (intKind prog w) a S m->s'.heap.SetW (intKind prog w) a S m:=fun {s s' S m} mv ⟨ob,xs,ep,tb,g1,g⟩=>⟨ob,xs,ep,tb,mv.heap a _ aw g1,g⟩
 intro k
 induction k with
 | zero=>
  intro i s hk hi st hS fin
  obtain rfl : i=n:=by omega
  refine codeAny_builtin F.entry_set_update_loop ?_
  rw [Around.under_plainId F.plain_set_update_loop _]
  show wpAny _ A.in1 (pyNext (.ref I) >>= _) _ _ s
  refine wpAny_bind (W.done s _ _ st fun s' mv=>?_)
  show wpAny _ A.in1 (ret Value.none) _ _ s'
  exact wpAny_pure (fin s' (mv.mono sub) (keep mv hS))
 | succ k ih=>
  intro i s hk hi st hS fin
  have lt : i < n:=by omega
  refine codeAny_builtin F.entry_set_update_loop ?_
  rw [Around.under_plainId F.plain_set_update_loop _]
  show wpAny _ A.in1 (pyNext (.ref I) >>= _) _ _ s
  refine wpAny_bind (W.item i s _ _ lt st fun v s' hP st' mv=>?_)
  obtain ⟨t,rfl⟩:=hv i v hP
  show wpAny _ A.in1 (holding [Value.int (val i) t] (setAdd a (.int (val i) t)) >>= _) _ _ s'
  refine wpAny_bind (wpAny_holding ?_)
  unfold setAdd
  refine wpAny_holding ?_
  refine wpAny_bind ((intKind prog w).pyHash (k:=val i) (intKind_is _ _ _ _) ?_)
  have room : (firstMet val i).length + 1 < scanBound:=by have:=firstMet_length_le val i; omega
  refine addW (knd:=intKind prog w) (s:={ s' with toks:=s'.toks + 1 }) (intKind_is _ _ _ _) rfl (show s'.heap.SetW _ a _ _ from keep mv hS) room fun g' sb w2=>?_
  have w3 : g'.SetW (intKind prog w) a (fun z=>(firstMet val (i + 1)).any (· == z)) (firstMet val (i + 1)).length:=by
   have e1 : (fun z=>(firstMet val i).any (· == z) || decide (z=val i))=fun z=>(firstMet val (i + 1)).any (· == z):=funext fun z=>by rw [firstMet_succ,step_any]
   have e2 : (if ((firstMet val i).any (· == val i))=true then (firstMet val i).length else (firstMet val i).length + 1)=(firstMet val (i + 1)).length:=by rw [firstMet_succ,step_length]
   rw [e1,e2] at w2
   exact w2
  refine wpAny_pure ⟨plainId_quiet F.plain_set_update_loop _,ih (i + 1) _ (by omega) lt (W.frame _ s' _ _ st' (cn _) fun b hb o e=>?_) w3 fun s2 mv2 w4=>?_⟩
  ·rw [sb.2 b fun z=>af (z ▸ hb)]
   exact e
  ·refine fin s2 (Moved.trans W.gtrans ((mv.mono sub).then_heap (cn _) fun b o hb e=>?_) mv2) w4
   rw [sb.2 b fun z=>hb (z ▸ ah)]
   exact e
end
end PySem
namespace PySem
section
variable {prog : Program} {w : World} {A : Around} {E : Value->Shared->Prop} {s : Shared}
open PyProof.Rows in
theorem y5Y (a : Value) {Q₁ : Value->Shared->Prop}
  (h : Q₁ (.ref s.heap.objs.size) { s with heap:=s.heap.push { cls:=.type "set",dict:=none,data:=.set #[] 0 (.fresh 0 0 (!w.params.followText "set-order")) } }) :
  codeAny (model prog w) A (.call (.builtin "set.__new__") ⟨[.type "set",a],[]⟩) (wants Q₁ E) s:=by
 refine codeAny_of_tree ?_
 show wpAny _ A.in1 (do checkBuiltinCall "set.__new__" ⟨[.type "set",a],[]⟩; again (.builtin "set.__new__" ⟨[.type "set",a],[]⟩)) _ _ s
 refine wpAny_bind (wpAny_of_eq (F.newCall_set_1 a) (wpAny_pure ⟨plainId_quiet F.plain_set_new _,codeAny_builtin F.entry_set_new ?_⟩))
 rw [Around.under_plainId F.plain_set_new _]
 unfold Builtin.«set.__new__» Builtin.Frozenset.newClass
 have hsub:=sub_set_self
 obtain ⟨hp,g,d,tk,os⟩:=s
 dsimp only
 wp_walk
 refine wpAny_askSetting (wpAny_pure ?_)
 dsimp only
 simp only [newObj]
 refine wpAny_bind (wpAny_alloc (wpAny_pure ?_))
 exact wpAny_pure h
set_option maxHeartbeats 3200000 in
open PyProof.Rows in
theorem y3I {l : Addr} {its : Array Value} {ns : List Int} {Q : Value->Shared->Prop} (hh : A.handled=none) (hl : s.heap.IsList l its) (hi : IntsAre its.toList ns) (hb : its.size + 1 < scanBound)
  (fin : ∀ (g' : Heap) (tk : Nat),g'.SetW (intKind prog w) s.heap.objs.size (fun z=>(firstMet (fun i=>ns.getD i 0) its.size).any (· == z)) (firstMet (fun i=>ns.getD i 0) its.size).length →
   (∀ b o,b < s.heap.objs.size->s.heap.get? b=some o->g'.get? b=some o)->Q (.ref s.heap.objs.size) { s with heap:=g',toks:=tk }) :
  wpAny (model prog w) A (call (.type "set") [.ref l]) Q E s:=by
 obtain ⟨c,tl,m1⟩:=F.called_set.mro
 have m2:=F.called_set.made
 have m3:=F.called_set.sub
 refine wpAny_call (codeAny_of_tree ?_)
 show wpAny _ _ (callAny (.type "set") _) _ _ _
 refine wpAny_pure ⟨Code.quiet_builtin _ (by decide +kernel),codeAny_builtin F.entry_type_call ?_⟩
 rw [Around.under_plain (weight_type_call_type "set" [.ref l] []) rfl]
 have m4:=F.called_set.notType
 have m5:=F.called_set.canCreate
 have m6:=F.typeCall_set_1 (.ref l)
 repeat (any_goals (first | assumption | wp_step))
 obtain ⟨ob,hob⟩ : ∃ ob : Obj,ob = { cls:=.type "set",dict:=none,data:=.set #[] 0 (.fresh 0 0 (!w.params.followText "set-order")) }:=⟨_,rfl⟩
 refine codeAny_mono (y5Y (.ref l) (E:=E) (Q₁:=fun v s₁=>v = .ref s.heap.objs.size∧s₁ = { s with heap:=s.heap.push ob }) ⟨rfl,by rw [hob]⟩) fun r s₁ hr=>?_
 cases r with
 | error e=>exact hr
 | ok fl=>
  cases fl with
  | ret v=>
   obtain ⟨rfl,rfl⟩:=hr
   have p1 : (s.heap.push ob).get? s.heap.objs.size=some ob:=Heap.get?_push_size _ (by rw [hob]; rfl)
   have p2 : Shared.TypeIs { s with heap:=s.heap.push ob } (.ref s.heap.objs.size) "set" := ⟨_,p1,by rw [hob]⟩
   have p3:=F.called_set.init.lookup
   have p4:=F.called_set.init.bind (.ref s.heap.objs.size)
   repeat (any_goals (first | assumption | wp_step))
   refine codeAny_mono (codeAny_call_builtin (R:=wants (fun r s₂=>r = .none∧∃ g' tk,s₂ = { s with heap:=g',toks:=tk } ∧
     g'.SetW (intKind prog w) s.heap.objs.size (fun z=>(firstMet (fun i=>ns.getD i 0) its.size).any (· == z)) (firstMet (fun i=>ns.getD i 0) its.size).length ∧
     (∀ b o,b < s.heap.objs.size->s.heap.get? b=some o->g'.get? b=some o)) E) F.called_set.init.plain F.entry_set_init (check_set_init_1 p2 ?_)) fun r₂ s₂ hr₂=>?_
   ·obtain ⟨ol,q1,q2,nl,q3⟩:=hl
    obtain ⟨ocls,odict,odata,oslots⟩:=ol
    simp only at q2 q3
    subst q2; subst q3
    have q4 : (s.heap.push ob).get? l=some { cls:=.type "list",dict:=odict,data:=.seq its nl,slots:=oslots }:=Heap.get?_push_of_some _ q1
    have q5:=F.sub_list_set
    have q6:=F.sub_list_frozenset
    have q7 : (Value.type "list" == Value.type "dict")=false:=by decide
    have q8 : (s.heap.push ob).IsList l its:=⟨_,q4,rfl,nl,rfl⟩
    unfold Builtin.«set.__init__» noKeywords Builtin.Frozenset.updateFrom
    generalize hPI : pyIter=PI
    rw [hob] at p1 p2 q4 q8 ⊢
    wp_walk
    subst hPI
    refine wpAny_pyIter_list q8 ?_
    refine wpAny_bind (wpAny_runValue ?_)
    have ls : l < s.heap.objs.size:=Heap.lt_size q1
    have hh3 : A.in1.in1.in1.handled=none:=by simp [hh]
    rw [← hob] at p1 q8 ⊢
    have ne1 : l≠(s.heap.push ob).objs.size:=by
     rw [Heap.size_push]
     exact aH (bz ls)
    have af : s.heap.objs.size ∉ [(s.heap.push ob).objs.size,l]:=fun z=>by
     rw [Heap.size_push] at z
     rcases ai.mp z with z | z
     ·exact absurd z (aH (cJ _))
     ·exact absurd (am.mp z) (cz ls)
    refine updateW ((Walks.list hh3 _ l ne1 its).toS) s.heap.objs.size af (fun i=>ns.getD i 0) (fun i v hv=>IntsAre.int_at hi i v (by rw [cf]; exact hv)) hb (its.size - 0) 0 _ (by omega) (bA _)
     ⟨⟨_,Heap.get?_push_size _ rfl,rfl,rfl⟩,(q8.push _)⟩ ?h0 ?h1
    case h0=>
     have e1 : ((s.heap.push ob).push { cls:=.type "list_iterator",data:=.fields #[.ref l,.int 0 0] }).get? s.heap.objs.size=some ob:=Heap.get?_push_of_some _ p1
     refine ⟨ob,#[],0,.fresh 0 0 (!w.params.followText "set-order"),e1,by rw [hob]; exact ⟨rfl,rfl,rfl⟩,by rw [hob],(fun e he=>nomatch he),fun k=>?_,by decide,rfl,rfl,?_⟩
     ·constructor
      ·intro z; cases z
      ·rintro ⟨e,he,_⟩; cases he
     ·cases hf : w.params.followText "set-order" with
      | true=>exact .inl rfl
      | false=>exact .inr y5U
    case h1=>
     intro s' mv w1
     obtain ⟨g',gs,dr,tk',os'⟩:=s'
     have eg : gs=s.gens:=mv.gens
     have ed : dr=s.drawn:=mv.drawn
     have eo : os'=s.os:=mv.os
     subst eg; subst ed; subst eo
     refine wpAny_pure ?_
     show wpAny _ _ (ret Value.none) _ _ _
     refine wpAny_pure ⟨rfl,g',tk',rfl,w1,fun b o hb e=>?_⟩
     refine mv.heap b o (fun z=>?_) (Heap.get?_push_of_some _ (Heap.get?_push_of_some _ e))
     rcases ai.mp z with z | z
     ·exact absurd z (aH hb)
     ·rw [am,Heap.size_push] at z
      exact absurd z (aH (bz hb))
   ·cases r₂ with
    | error e=>exact hr₂
    | ok fl₂=>
     cases fl₂ with
     | ret r=>
      obtain ⟨rfl,g',tk,rfl,w1,w2⟩:=hr₂
      repeat (any_goals (first | assumption | wp_step))
      exact fin _ _ w1 w2
     | _=>exact hr₂.elim
  | _=>exact hr.elim
end
end PySem
namespace PySem
theorem y0l : entryFor table "set.__iter__" = some Builtin.«frozenset.__iter__»:=entryFor_alias (id' := "frozenset.__iter__") (by kernel_rfl) rfl (by decide +kernel) (by kernel_rfl)
theorem sl_sit_next : Slot "set_iterator" "__next__" "set_iterator.__next__" :=
 .of (owner := "set_iterator") (n := "__next__") (by rw [typeLookup_type,builtinLookup_eq_fast]; kernel_rfl) (by decide +kernel) (by decide +kernel) (by decide +kernel) (by first | exact .inl (by decide +kernel) | exact .inr (by decide +kernel)) (by rw [isSubtype_type]; kernel_rfl)
theorem z3f : entryFor table "set_iterator.__next__" = some Builtin.«set_iterator.__next__»:=entryFor_of_tree (by kernel_rfl)
theorem y8t : Manifest.owners.lookup (String.ofList ['r','o','t','a','r','e','t','i','_','t','e','s'].reverse)=some Manifest.sig_set_iterator:=by kernel_rfl
theorem z3g (a : Value) : argsOk "set_iterator.__next__" ⟨[a],[]⟩:=by
 unfold argsOk
 rw [signature?_of (id := "set_iterator.__next__") (n:=['_','_','t','x','e','n','_','_']) (o:=['r','o','t','a','r','e','t','i','_','t','e','s']) (by kernel_rfl) y8t]
 kernel_rfl
theorem z4V {α : Type} : ∀ {l : List α} {i : Nat} (h : i < l.length),(l[i] :: l.eraseIdx i).Perm l
 | x :: r,0,_=>.refl _
 | x :: r,i + 1,h=>by
  have hi : i < r.length:=by simpa using h
  exact (List.Perm.swap x (r[i]'hi) (r.eraseIdx i)).trans ((z4V hi).cons x)
section
variable {M : Model} {A : Around} {E : Value->Shared->Prop} {s : Shared}
theorem y2x {src : Source} {n : Nat} {Q : Nat->Shared->Prop} (hn : n≠0) (h : ∀ i,i < n->∀ dr,Q i { s with drawn:=dr }) : wpAny M A (choose src n) Q E s:=fun Γ p _=>⟨hn,h _ (Nat.mod_lt _ (Nat.pos_of_ne_zero hn)) _⟩
theorem z6o {α : Type} : ∀ (n : Nat) (xs : List α) (s : Shared) {Q : List α->Shared->Prop},xs.length=n->(∀ ys dr,ys.Perm xs->Q ys { s with drawn:=dr })->wpAny M A (drawOrder n xs) Q E s
 | 0,[],s,Q,_,h=>wpAny_pure (h [] s.drawn (.refl _))
 | 0,_ :: _,_,_,hl,_=>by cases hl
 | n + 1,[],_,_,hl,_=>by cases hl
 | n + 1,x :: r,s,Q,hl,h=>by
  unfold drawOrder
  refine wpAny_bind (y2x (by simp) fun i hi dr=>?_)
  obtain ⟨y,hy⟩ : ∃ y,(x :: r)[i]? = some y:=⟨(x :: r)[i],ae hi⟩
  rw [hy]
  refine wpAny_bind (z6o n ((x :: r).eraseIdx i) _ (by rw [dB hi]; simp at hl ⊢; omega) fun ys dr2 hp=>wpAny_pure (h (y :: ys) dr2 ?_))
  obtain ⟨hi',rfl⟩:=a7.mp hy
  exact (hp.cons _).trans (z4V hi')
end
theorem z8Z {α : Type} (next : Nat->Nat) : ∀ (f k : Nat) (left : List α) (out : Array α),left.length=f->(pickOrder.go next f k left out).toList.Perm (out.toList ++ left)
 | 0,k,left,out,h=>by
  obtain rfl:=bH.mp h
  unfold pickOrder.go
  simp
 | f + 1,k,left,out,h=>by
  unfold pickOrder.go
  have hi : next k % left.length < left.length:=Nat.mod_lt _ (by omega)
  rw [ae hi]
  refine (z8Z next f (k + 1) _ _ (by rw [dB hi]; omega)).trans ?_
  rw [eM,aZ]
  exact List.Perm.append_left _ (z4V hi)
theorem y2h {α : Type} (next : Nat->Nat) (xs : Array α) : (pickOrder next xs).toList.Perm xs.toList:=by
 have:=z8Z next xs.size 0 xs.toList #[] (by simp)
 unfold pickOrder
 simpa using this
section
variable {prog : Program} {w : World} {A : Around} {E : Value->Shared->Prop} {s : Shared}
theorem y4h {a : Addr} {ob : Obj} {xs : Array (Int × Value)} {ep sl i : Nat} {tb : SetTable} {Q : Option (Value × Nat)->Shared->Prop} (g1 : s.heap.get? a=some ob) (g3 : ob.data = .set xs ep tb) (g7 : tb.fits xs.size=true)
  (ht : w.params.followText "set-order" = true) (h : Q (((pickOrder (w.params.setOrder a ep) xs)[i]?).map fun e=>(e.2,sl)) s) : wpAny (model prog w) A (setNext a sl i ep) Q E s:=by
 unfold setNext
 refine wpAny_bind (wpAny_setState_of g1 g3 g7 ?_)
 dsimp only
 unfold setsByText
 refine wpAny_bind (wpAny_bind (wpAny_askSetting (wpAny_pure ?_)))
 show wpAny _ _ (if w.params.followText "set-order" = true then _ else _) _ _ s
 rw [if_pos ht,if_neg (by simp)]
 refine wpAny_bind ?_
 unfold setWalk
 refine wpAny_bind (wpAny_setState_of g1 g3 g7 ?_)
 dsimp only
 unfold setsByText
 refine wpAny_bind (wpAny_bind (wpAny_askSetting (wpAny_pure ?_)))
 show wpAny _ _ (if w.params.followText "set-order" = true then _ else _) _ _ s
 rw [if_pos ht]
 exact wpAny_bind (wpAny_askSetting (wpAny_pure (wpAny_pure h)))
noncomputable def slP (tb : SetTable) : Nat->Nat
 | 0=>0
 | i + 1=>tb.place.getD i 0 + 1
theorem y7R {tb : SetTable} (hu : SetTable.Up tb.place) {i : Nat} (hi : i≤tb.place.size) : SetTable.below tb.place (slP tb i)=i:=by
 obtain ⟨a,b,c⟩:=SetTable.below_spec hu (slP tb i)
 have gd : ∀ k d,k < tb.place.size->tb.place.getD k d=tb.place.getD k 0:=fun k d hk=>by simp [hk]
 rcases c8 (SetTable.below tb.place (slP tb i)) i with z | z | z
 ·have h1:=b _ (ar _) (by omega)
  generalize SetTable.below tb.place (slP tb i)=r at h1 z
  rw [gd r _ (by omega)] at h1
  cases i with
  | zero=>omega
  | succ i=>
   have h2 : slP tb (i + 1)=tb.place.getD i 0 + 1:=rfl
   rw [h2] at h1
   rcases dZ r i with q | q
   ·have:=SetTable.up_le hu q (by omega) 0
    omega
   ·have : r=i:=by omega
    rw [this] at h1
    omega
 ·exact z
 ·have h1:=a i z
  rw [gd i _ (by omega)] at h1
  cases i with
  | zero=>have h2 : slP tb 0=0:=rfl; omega
  | succ i=>
   have h2 : slP tb (i + 1)=tb.place.getD i 0 + 1:=rfl
   have:=SetTable.up_le hu (show i < i + 1 by omega) (by omega) 0
   omega
theorem y2b {a : Addr} {ob : Obj} {xs : Array (Int × Value)} {ep i : Nat} {tb : SetTable} {Q : Option (Value × Nat)->Shared->Prop} (g1 : s.heap.get? a=some ob) (g3 : ob.data = .set xs ep tb) (g7 : tb.fits xs.size=true)
  (ht : w.params.followText "set-order" = false) (hd : (!tb.plain && decide (xs.size > 1))=false) (hled : tb.led=true) (hu : SetTable.Up tb.place) (hi : i≤xs.size) (h : Q ((xs[i]?).map fun e=>(e.2,slP tb (i + 1))) s) : wpAny (model prog w) A (setNext a (slP tb i) i ep) Q E s:=by
 have hp : tb.place.size=xs.size:=by
  unfold SetTable.fits at g7
  rw [aJ] at g7
  exact eq_of_beq g7.1
 unfold setNext
 refine wpAny_bind (wpAny_setState_of g1 g3 g7 ?_)
 dsimp only
 unfold setsByText
 refine wpAny_bind (wpAny_bind (wpAny_askSetting (wpAny_pure ?_)))
 show wpAny _ _ (if w.params.followText "set-order" = true then _ else _) _ _ s
 rw [if_neg (by rw [ht]; exact ao)]
 show wpAny _ _ (if (!tb.plain && decide (xs.size > 1))=true then _ else _) _ _ s
 rw [if_neg (by rw [hd]; exact ao)]
 refine wpAny_bind ?_
 show wpAny _ _ (if (!tb.led && !xs.isEmpty)=true then _ else _) _ _ s
 rw [if_neg (by rw [hled]; exact ao)]
 refine wpAny_pure (wpAny_pure ?_)
 show Q (match xs[SetTable.below tb.place (slP tb i)]?,tb.place[SetTable.below tb.place (slP tb i)]? with | some (_,x),some j=>some (x,j + 1) | _,_=>none) s
 rw [y7R hu (by omega)]
 by_cases hlt : i < xs.size
 ·rw [aX hlt] at h ⊢
  rw [aX (show i < tb.place.size by omega)]
  have e : slP tb (i + 1)=tb.place[i] + 1:=by
   show tb.place.getD i 0 + 1=_
   simp [show i < tb.place.size by omega]
  rw [e] at h
  exact h
 ·rw [Array.getElem?_eq_none (by omega)] at h ⊢
  exact h
end
end PySem
namespace PySem
noncomputable def Heap.SIt (g : Heap) (I a : Addr) (first : Value) (i n ep : Nat) : Prop:=∃ ob,g.get? I=some ob∧ob.cls = .type "set_iterator" ∧ ob.data = .fields #[first,.int i 0,.ref a,.int n 0,.int ep 0]
noncomputable def Heap.SDt (g : Heap) (a : Addr) (xs : Array (Int × Value)) (ep : Nat) (tb : SetTable) : Prop:=∃ ob,g.get? a=some ob∧ob.data = .set xs ep tb
section
variable {prog : Program} {w : World} {A : Around} {E : Value->Shared->Prop} {s : Shared}
theorem z1K {I a : Addr} {f : Value} {i n ep : Nat} (h : s.heap.SIt I a f i n ep) : s.TypeIs (.ref I) "set_iterator" := by
 obtain ⟨ob,h1,h2,_⟩:=h
 exact ⟨ob,h1,h2⟩
theorem z2Q {a : Addr} {xs : Array (Int × Value)} {ep : Nat} {tb : SetTable} {Q : Array (Int × Value)->Shared->Prop} (h : s.heap.SDt a xs ep tb) (hf : tb.fits xs.size=true) (q : Q xs s) : wpAny (model prog w) A (setEntries a) Q E s:=by
 obtain ⟨ob,g1,g3⟩:=h
 unfold setEntries
 exact wpAny_bind (wpAny_setState_of g1 g3 hf (wpAny_pure q))
theorem y6m {I a : Addr} {sl sl' i ep : Nat} {xs : Array (Int × Value)} {tb : SetTable} {x : Value} {Q : Option Value->Shared->Prop} (hit : s.heap.SIt I a (.int sl 0) i xs.size ep) (hs : s.heap.SDt a xs ep tb) (hf : tb.fits xs.size=true)
  (hn : ∀ (A' : Around) (E' : Value->Shared->Prop) (Q' : Option (Value × Nat)->Shared->Prop),Q' (some (x,sl')) s->wpAny (model prog w) A' (setNext a sl i ep) Q' E' s)
  (hQ : ∀ g',g'.SIt I a (.int sl' 0) (i + 1) xs.size ep->Heap.SameBut I s.heap g'->Q (some x) { s with heap:=g' }) : wpAny (model prog w) A (pyNext (.ref I)) Q E s:=by
 obtain ⟨ob,h1,h2,h3⟩:=id hit
 unfold pyNext
 refine wpAny_bind (wpAny_attempt (wpAny_callSpecial?_slot (name:=Str.ofString "__next__") (z1K hit) sl_sit_next (wpAny_call_entry sl_sit_next (z1K hit) z3f ?_ (z3g _))))
 unfold Builtin.«set_iterator.__next__»
 refine wpAny_bind (wpAny_pure ?_)
 refine wpAny_bind (wpAny_fieldsOf h1 h3 ?_)
 dsimp only
 refine wpAny_bind (z2Q hs hf ?_)
 rw [if_neg (by simp)]
 refine wpAny_bind (hn _ _ _ ?_)
 dsimp only
 refine wpAny_bind (wpAny_setField h1 h3 (by simp) ?_)
 have k1:=Heap.get?_update_self (Obj.mapFields (·.setIfInBounds 0 (rawInt (sl' : Int)))) h1 (Obj.isFreed_of_fields (Obj.data_mapFields h3 _))
 have k3:=Obj.data_mapFields h3 (·.setIfInBounds 0 (rawInt (sl' : Int)))
 refine wpAny_bind (wpAny_setField k1 k3 (by simp) ?_)
 have m1:=Heap.get?_update_self (Obj.mapFields (·.setIfInBounds 1 (rawInt ((i : Int) + 1)))) k1 (Obj.isFreed_of_fields (Obj.data_mapFields k3 _))
 have m3:=Obj.data_mapFields k3 (·.setIfInBounds 1 (rawInt ((i : Int) + 1)))
 refine wpAny_pure ⟨_,rfl,wpAny_pure (hQ _ ⟨_,m1,((Obj.cls_mapFields ..).trans (Obj.cls_mapFields ..)).trans h2,?_⟩ ((Heap.SameBut.update ..).trans (Heap.SameBut.update ..)))⟩
 rw [m3]
 simp [rawInt]
theorem sit_end {I a : Addr} {sl i ep : Nat} {xs : Array (Int × Value)} {tb : SetTable} {Q : Option Value->Shared->Prop} (hh : A.handled=none) (hit : s.heap.SIt I a (.int sl 0) i xs.size ep) (hs : s.heap.SDt a xs ep tb) (hf : tb.fits xs.size=true)
  (hn : ∀ (A' : Around) (E' : Value->Shared->Prop) (Q' : Option (Value × Nat)->Shared->Prop),Q' none s->wpAny (model prog w) A' (setNext a sl i ep) Q' E' s)
  (hQ : ∀ g',Heap.ExtBut I s.heap g'->Q none { s with heap:=g' }) : wpAny (model prog w) A (pyNext (.ref I)) Q E s:=by
 obtain ⟨ob,h1,h2,h3⟩:=id hit
 unfold pyNext
 refine wpAny_bind (wpAny_attempt (wpAny_callSpecial?_slot (name:=Str.ofString "__next__") (z1K hit) sl_sit_next (wpAny_call_entry sl_sit_next (z1K hit) z3f ?_ (z3g _))))
 unfold Builtin.«set_iterator.__next__»
 refine wpAny_bind (wpAny_pure ?_)
 refine wpAny_bind (wpAny_fieldsOf h1 h3 ?_)
 dsimp only
 refine wpAny_bind (z2Q hs hf ?_)
 rw [if_neg (by simp)]
 refine wpAny_bind (hn _ _ _ ?_)
 dsimp only
 refine wpAny_bind (wpAny_setField h1 h3 (by simp) ?_)
 refine wpAny_bind ?_
 simp only [newExc,newTuple]
 refine wpAny_bind (wpAny_newObj_type ?_ (by size_fits))
 refine wpAny_bind (m:=firstArgMember _ _) (wpAny_of_eq (a:=Value.none) (by first | rfl | (simp only [firstArgMember]; rfl)) ?_)
 refine wpAny_newObj_type ?_ (by size_fits)
 simp only [raiseNew]
 refine wpAny_bind (wpAny_handled ?_)
 rw [show A.in1.handled=none from hh]
 refine wpAny_bind (wpAny_pure (wpAny_throw ?_))
 refine wpAny_bind (wpAny_isInstance (T := "StopIteration") (b:=true) ⟨_,Heap.get?_push_size _ rfl,rfl⟩ isSubtype_stop ?_)
 exact wpAny_pure (hQ _ (((Heap.SameBut.update ..).extBut.push _).push _))
theorem y2E {I a tp : Addr} {i ep p : Nat} {xs : Array (Int × Value)} {tb : SetTable} {ps : Array Value} {x : Int × Value} {Q : Option Value->Shared->Prop} (hit : s.heap.SIt I a (.ref tp) i xs.size ep) (hs : s.heap.SDt a xs ep tb) (hf : tb.fits xs.size=true)
  (ht : ∀ (A' : Around) (E' : Value->Shared->Prop) (Q' : Option (Array Value)->Shared->Prop),Q' (some ps) s->wpAny (model prog w) A' (seqItems? (.ref tp)) Q' E' s) (hp : ps[i]? = some (.int p 0)) (hx : xs[p]? = some x)
  (hQ : ∀ g',g'.SIt I a (.ref tp) (i + 1) xs.size ep->Heap.SameBut I s.heap g'->Q (some x.2) { s with heap:=g' }) : wpAny (model prog w) A (pyNext (.ref I)) Q E s:=by
 obtain ⟨ob,h1,h2,h3⟩:=id hit
 obtain ⟨oa,g1,g3⟩:=id hs
 unfold pyNext
 refine wpAny_bind (wpAny_attempt (wpAny_callSpecial?_slot (name:=Str.ofString "__next__") (z1K hit) sl_sit_next (wpAny_call_entry sl_sit_next (z1K hit) z3f ?_ (z3g _))))
 unfold Builtin.«set_iterator.__next__»
 refine wpAny_bind (wpAny_pure ?_)
 refine wpAny_bind (wpAny_fieldsOf h1 h3 ?_)
 dsimp only
 refine wpAny_bind (z2Q hs hf ?_)
 rw [if_neg (by simp)]
 refine wpAny_bind (ht _ _ _ ?_)
 dsimp only
 rw [ce,hp]
 dsimp only
 refine wpAny_bind ?_
 unfold setNextDrawn
 refine wpAny_bind (wpAny_setState_of g1 g3 hf ?_)
 dsimp only
 rw [if_neg (by simp),ce,hx]
 refine wpAny_pure ?_
 refine wpAny_bind (wpAny_setField h1 h3 (by simp) ?_)
 have k1:=Heap.get?_update_self (Obj.mapFields (·.setIfInBounds 1 (rawInt ((i : Int) + 1)))) h1 (Obj.isFreed_of_fields (Obj.data_mapFields h3 _))
 have k3:=Obj.data_mapFields h3 (·.setIfInBounds 1 (rawInt ((i : Int) + 1)))
 refine wpAny_pure ⟨_,rfl,wpAny_pure (hQ _ ⟨_,k1,(Obj.cls_mapFields ..).trans h2,?_⟩ (Heap.SameBut.update ..))⟩
 rw [k3]
 simp [rawInt]
theorem y4i {I a tp : Addr} {i ep : Nat} {xs : Array (Int × Value)} {tb : SetTable} {ps : Array Value} {Q : Option Value->Shared->Prop} (hh : A.handled=none) (hit : s.heap.SIt I a (.ref tp) i xs.size ep) (hs : s.heap.SDt a xs ep tb) (hf : tb.fits xs.size=true)
  (ht : ∀ (A' : Around) (E' : Value->Shared->Prop) (Q' : Option (Array Value)->Shared->Prop),Q' (some ps) s->wpAny (model prog w) A' (seqItems? (.ref tp)) Q' E' s) (hp : ps[i]? = none)
  (hQ : ∀ g',Heap.ExtBut I s.heap g'->Q none { s with heap:=g' }) : wpAny (model prog w) A (pyNext (.ref I)) Q E s:=by
 obtain ⟨ob,h1,h2,h3⟩:=id hit
 unfold pyNext
 refine wpAny_bind (wpAny_attempt (wpAny_callSpecial?_slot (name:=Str.ofString "__next__") (z1K hit) sl_sit_next (wpAny_call_entry sl_sit_next (z1K hit) z3f ?_ (z3g _))))
 unfold Builtin.«set_iterator.__next__»
 refine wpAny_bind (wpAny_pure ?_)
 refine wpAny_bind (wpAny_fieldsOf h1 h3 ?_)
 dsimp only
 refine wpAny_bind (z2Q hs hf ?_)
 rw [if_neg (by simp)]
 refine wpAny_bind (ht _ _ _ ?_)
 dsimp only
 rw [ce,hp]
 dsimp only
 refine wpAny_bind (wpAny_setField h1 h3 (by simp) ?_)
 have k1:=Heap.get?_update_self (Obj.mapFields (·.setIfInBounds 0 (rawInt 0))) h1 (Obj.isFreed_of_fields (Obj.data_mapFields h3 _))
 have k3:=Obj.data_mapFields h3 (·.setIfInBounds 0 (rawInt 0))
 refine wpAny_bind (wpAny_setField k1 k3 (by simp) ?_)
 refine wpAny_bind ?_
 simp only [newExc,newTuple]
 refine wpAny_bind (wpAny_newObj_type ?_ (by size_fits))
 refine wpAny_bind (m:=firstArgMember _ _) (wpAny_of_eq (a:=Value.none) (by first | rfl | (simp only [firstArgMember]; rfl)) ?_)
 refine wpAny_newObj_type ?_ (by size_fits)
 simp only [raiseNew]
 refine wpAny_bind (wpAny_handled ?_)
 rw [show A.in1.handled=none from hh]
 refine wpAny_bind (wpAny_pure (wpAny_throw ?_))
 refine wpAny_bind (wpAny_isInstance (T := "StopIteration") (b:=true) ⟨_,Heap.get?_push_size _ rfl,rfl⟩ isSubtype_stop ?_)
 exact wpAny_pure (hQ _ ((((Heap.SameBut.update ..).trans (Heap.SameBut.update ..)).extBut.push _).push _))
end
end PySem
namespace PySem
theorem z6i : Slot "set_iterator" "__iter__" "set_iterator.__iter__" :=
 .of (owner := "set_iterator") (n := "__iter__") (by rw [typeLookup_type,builtinLookup_eq_fast]; kernel_rfl) (by decide +kernel) (by decide +kernel) (by decide +kernel) (by first | exact .inl (by decide +kernel) | exact .inr (by decide +kernel)) (by rw [isSubtype_type]; kernel_rfl)
theorem y0i : entryFor table "set_iterator.__iter__" = some Builtin.«dict_keyiterator.__iter__»:=entryFor_alias (id' := "dict_keyiterator.__iter__") (by kernel_rfl) rfl (by decide +kernel) (by kernel_rfl)
theorem y0o (a : Value) : argsOk "set_iterator.__iter__" ⟨[a],[]⟩:=by
 unfold argsOk
 rw [signature?_of (id := "set_iterator.__iter__") (n:=['_','_','r','e','t','i','_','_']) (o:=['r','o','t','a','r','e','t','i','_','t','e','s']) (by kernel_rfl) y8t]
 kernel_rfl
section
variable {prog : Program} {w : World} {A : Around} {E : Value->Shared->Prop} {s : Shared}
theorem y1I {I a : Addr} {f : Value} {i n ep : Nat} {Q : Value->Shared->Prop} (h : s.heap.SIt I a f i n ep) (q : Q (.ref I) s) : wpAny (model prog w) A (pyIter (.ref I)) Q E s:=by
 refine wpAny_pyIter_slot (z1K h) z6i (wpAny_call_entry z6i (z1K h) y0i ?_ (y0o _))
 exact wpAny_pure ⟨_,rfl, "set_iterator",_,z1K h,sl_sit_next.lookup,q⟩
theorem y8K {g g' : Heap} {I a : Addr} {f : Value} {i n ep : Nat} (h : g.SIt I a f i n ep) (k : ∀ o,g.get? I=some o->g'.get? I=some o) : g'.SIt I a f i n ep:=by
 obtain ⟨ob,h1,h2⟩:=h
 exact ⟨ob,k _ h1,h2⟩
theorem z7e {g g' : Heap} {a : Addr} {xs : Array (Int × Value)} {ep : Nat} {tb : SetTable} (h : g.SDt a xs ep tb) (k : ∀ o,g.get? a=some o->g'.get? a=some o) : g'.SDt a xs ep tb:=by
 obtain ⟨ob,h1,h2⟩:=h
 exact ⟨ob,k _ h1,h2⟩
theorem Walks.setA (hh : A.handled=none) (I a : Addr) (ne : a≠I) {xs : Array (Int × Value)} {ep : Nat} {tb : SetTable} (hf : tb.fits xs.size=true) (sl : Nat->Nat) (vs : List Value) (hl : vs.length=xs.size)
  (hn : ∀ i,i≤xs.size->∀ (s : Shared),s.heap.SDt a xs ep tb->∀ (A' : Around) (E' : Value->Shared->Prop) (Q' : Option (Value × Nat)->Shared->Prop),Q' ((vs[i]?).map fun v=>(v,sl (i + 1))) s->wpAny (model prog w) A' (setNext a (sl i) i ep) Q' E' s) :
  Walks prog w A I [I,a] [I] xs.size (fun i v=>vs[i]? = some v) (fun i g=>g.SIt I a (.int (sl i) 0) i xs.size ep∧g.SDt a xs ep tb) where
 sub:=fun b hb=>by simp at hb; simp [hb]
 frame:=fun _ _ _ st k=>⟨y8K st.1 fun o e=>k I (by simp) o e,z7e st.2 fun o e=>k a (by simp) o e⟩
 item:=fun i s Q E hi st hQ=>by
  obtain ⟨v,hv⟩ : ∃ v,vs[i]? = some v:=⟨vs[i],ae (by omega)⟩
  refine y6m st.1 st.2 hf (fun A' E' Q' q=>hn i (by omega) s st.2 A' E' Q' (by rw [hv]; exact q)) fun g' k1 k2=>?_
  exact hQ v g' s.toks hv ⟨k1,z7e st.2 fun o e=>k2.extBut a o ne e⟩ fun b o hb e=>k2.extBut b o (fun h=>hb (by simp [h])) e
 done:=fun s Q E st hQ=>sit_end hh st.1 st.2 hf (fun A' E' Q' q=>hn xs.size (ar _) s st.2 A' E' Q' (by rw [bM (by omega)]; exact q)) fun g' k=>hQ g' s.toks fun b o hb e=>k b o (fun h=>hb (by simp [h])) e
 self:=fun _ _ _ _ st q=>y1I st.1 q
theorem Walks.setB (hh : A.handled=none) (I a tp : Addr) (ne : a≠I) (ne2 : tp≠I) {xs : Array (Int × Value)} {ep : Nat} {tb : SetTable} (hf : tb.fits xs.size=true) (ps : List Nat) (hl : ps.length=xs.size) (hp : ∀ p∈ps,p < xs.size) :
  Walks prog w A I [I,a,tp] [I] xs.size (fun i v=>(ps.filterMap fun p=>(xs[p]?).map (·.2))[i]? = some v) (fun i g=>g.SIt I a (.ref tp) i xs.size ep∧g.SDt a xs ep tb∧∃ ob n,g.get? tp=some ob∧ob.data = .seq (ps.map fun (p : Nat)=>Value.int p 0).toArray n) where
 sub:=fun b hb=>by simp at hb; simp [hb]
 frame:=fun _ _ _ st k=>⟨y8K st.1 fun o e=>k I (by simp) o e,z7e st.2.1 fun o e=>k a (by simp) o e,by
  obtain ⟨ob,n,e1,e2⟩:=st.2.2
  exact ⟨ob,n,k tp (by simp) _ e1,e2⟩⟩
 item:=fun i s Q E hi st hQ=>by
  obtain ⟨ob,n,e1,e2⟩:=st.2.2
  have hi' : i < ps.length:=by omega
  have hpi:=hp ps[i] (bh hi')
  refine y2E (p:=ps[i]) (x:=xs[ps[i]]) st.1 st.2.1 hf (fun A' E' Q' q=>wpAny_seqItems e1 e2 q) (by simp [hi']) (aX hpi) fun g' k1 k2=>?_
  refine hQ _ g' s.toks ?_ ⟨k1,z7e st.2.1 fun o e=>k2.extBut a o ne e,ob,n,k2.extBut tp ob ne2 e1,e2⟩ fun b o hb e=>k2.extBut b o (fun h=>hb (by simp [h])) e
  have em : (ps.filterMap fun p=>(xs[p]?).map (·.2))=ps.map fun p=>(xs[p]?.map (·.2)).getD .none:=by
   have gen : ∀ l : List Nat,(∀ p∈l,p < xs.size)->(l.filterMap fun p=>(xs[p]?).map (·.2))=l.map fun p=>(xs[p]?.map (·.2)).getD .none:=fun l=>by
    induction l with
    | nil=>exact fun _=>rfl
    | cons p l ih=>
     intro h
     rw [bZ,aT,aX (h p ah),ih fun q hq=>h q (ak _ hq)]
     rfl
   exact gen ps hp
  rw [em,aN,ae hi',bF,aX hpi]
  rfl
 done:=fun s Q E st hQ=>by
  obtain ⟨ob,n,e1,e2⟩:=st.2.2
  exact y4i hh st.1 st.2.1 hf (fun A' E' Q' q=>wpAny_seqItems e1 e2 q) (by simp; omega) fun g' k=>hQ g' s.toks fun b o hb e=>k b o (fun h=>hb (by simp [h])) e
 self:=fun _ _ _ _ st q=>y1I st.1 q
end
end PySem
namespace PySem
open Sem (wp)
theorem y2y : typeLookup (.type "set") "__len__" = pure (some (.builtin "set.__len__")):=by rw [typeLookup_type,builtinLookup_eq_fast]; kernel_rfl
section
variable {K : Type} [DecidableEq K] {prog : Program} {w : World} {knd : KeyKind prog w K} {A : Around} {E : Value->Shared->Prop} {s : Shared}
theorem z6f {a : Addr} {S : K->Bool} {n : Nat} (h : s.heap.SetW knd a S n) : s.TypeIs (.ref a) "set" := by
 obtain ⟨ob,xs,ep,tb,g1,g2,_⟩:=h
 exact ⟨ob,g1,g2.1⟩
theorem y3R {g g' : Heap} {a : Addr} {S : K->Bool} {n : Nat} (h : g.SetW knd a S n) (k : ∀ o,g.get? a=some o->g'.get? a=some o) : g'.SetW knd a S n:=by
 obtain ⟨ob,xs,ep,tb,g1,r⟩:=h
 exact ⟨ob,xs,ep,tb,k _ g1,r⟩
theorem y6S {a : Addr} {S : K->Bool} {n : Nat} {Q : Value->Shared->Prop} (hS : s.heap.SetW knd a S n)
  (hQ : ∀ (g : Heap) (dr : Drawn) (I : Addr) (fp : List Addr) (vs : List Value) (St : Nat->Heap->Prop),(∀ b o,s.heap.get? b=some o->g.get? b=some o)->s.heap.objs.size≤I->(∀ b∈fp,b=a∨s.heap.objs.size≤b) →
   (∀ A' : Around,A'.handled=none->Walks prog w A' I fp [I] n (fun i v=>vs[i]? = some v) St)->St 0 g->vs.length=n->(∀ k,S k=true↔∃ v∈vs,knd.is k v=true)->(∀ v∈vs,∃ k,knd.is k v=true)->Q (.ref I) { s with heap:=g,drawn:=dr }) :
  wpAny (model prog w) A (pyIter (.ref a)) Q E s:=by
 have hT:=z6f hS
 obtain ⟨ob,xs,ep,tb,g1,g2,g3,g4,g5,g6,g7,g8,g9⟩:=hS
 have hlt : (a : Nat) < s.heap.objs.size:=Heap.lt_size g1
 have sd : s.heap.SDt a xs ep tb:=⟨ob,g1,g3⟩
 have mem : ∀ vs : List Value,vs.Perm (xs.toList.map (·.2))->vs.length=n∧(∀ k,S k=true↔∃ v∈vs,knd.is k v=true)∧∀ v∈vs,∃ k,knd.is k v=true:=fun vs hp=>by
  refine ⟨by rw [hp.length_eq]; simpa using g8,fun k=>?_,fun v hv=>?_⟩
  ·rw [g5 k]
   constructor
   ·rintro ⟨e,he,q⟩
    exact ⟨e.2,hp.mem_iff.mpr (List.mem_map_of_mem he),q⟩
   ·rintro ⟨v,hv,q⟩
    obtain ⟨e,he,rfl⟩:=aI.mp (hp.mem_iff.mp hv)
    exact ⟨e,he,q⟩
  ·obtain ⟨e,he,rfl⟩:=aI.mp (hp.mem_iff.mp hv)
   obtain ⟨⟨k,q,_⟩,_⟩:=g4 e he
   exact ⟨k,q⟩
 refine wpAny_pyIter_slot hT F.slot_set_iter (wpAny_call_entry F.slot_set_iter hT y0l ?_ (F.args_set_iter_1 _))
 unfold Builtin.«frozenset.__iter__»
 refine wpAny_bind (m:=Builtin.Frozenset.slot0 "__iter__" _) (wpAny_bind (wpAny_pure (wpAny_pure ?_)))
 refine wpAny_bind (m:=Builtin.Frozenset.sizeOf a) (wpAny_bind (z2Q sd g7 (wpAny_pure ?_)))
 refine wpAny_bind ?_
 unfold setDrawn
 refine wpAny_bind (wpAny_setState_of g1 g3 g7 ?_)
 dsimp only
 unfold setsByText
 refine wpAny_bind (wpAny_bind (wpAny_askSetting (wpAny_pure ?_)))
 refine wpAny_pure ?_
 show wpAny _ _ (if (!w.params.followText "set-order" && (!tb.plain && decide (xs.size > 1)))=true then _ else _) _ _ s
 have plainCase : ∀ (sl : Nat->Nat) (vs : List Value),sl 0=0->vs.Perm (xs.toList.map (·.2)) →
   (∀ i,i≤xs.size->∀ (s : Shared),s.heap.SDt a xs ep tb->∀ (A' : Around) (E' : Value->Shared->Prop) (Q' : Option (Value × Nat)->Shared->Prop),Q' ((vs[i]?).map fun v=>(v,sl (i + 1))) s->wpAny (model prog w) A' (setNext a (sl i) i ep) Q' E' s) →
   Q (.ref s.heap.objs.size) { s with heap:=s.heap.push { cls:=.type "set_iterator",data:=.fields #[.int 0 0,.int 0 0,.ref a,.int xs.size 0,.int ep 0] } }:=fun sl vs h0 hp hn=>by
  obtain ⟨z1,z2,z3⟩:=mem vs hp
  have ne : a≠s.heap.objs.size:=aH hlt
  refine hQ _ s.drawn s.heap.objs.size [s.heap.objs.size,a] vs (fun i g=>g.SIt s.heap.objs.size a (.int (sl i) 0) i xs.size ep∧g.SDt a xs ep tb) (fun b o e=>Heap.get?_push_of_some _ e) (ar _) (fun b hb=>?_) (fun A' hh=>?_) ?_ z1 z2 z3
  ·rcases ai.mp hb with z | z
   ·exact .inr (d7 z.symm)
   ·exact .inl (am.mp z)
  ·have W:=Walks.setA (prog:=prog) (w:=w) (A:=A') hh s.heap.objs.size a ne g7 sl vs (by omega) hn
   rw [g8] at W ⊢
   exact W
  ·refine ⟨⟨_,Heap.get?_push_size _ rfl,rfl,?_⟩,z7e sd fun o e=>Heap.get?_push_of_some _ e⟩
   rw [h0]
   rfl
 by_cases ht : w.params.followText "set-order" = true
 ·rw [if_neg (by rw [ht]; simp)]
  refine wpAny_bind (wpAny_pure ?_)
  refine wpAny_bind (wpAny_setEpoch_of g1 g3 g7 ?_)
  refine wpAny_bind (wpAny_newObj_type (wpAny_pure ⟨_,rfl, "set_iterator",_,⟨_,Heap.get?_push_size _ rfl,rfl⟩,sl_sit_next.lookup,?_⟩))
  refine plainCase (fun _=>0) ((pickOrder (w.params.setOrder a ep) xs).toList.map (·.2)) rfl ((y2h _ xs).map _) fun i hi s' sd' A' E' Q' q=>?_
  obtain ⟨o',e1,e3⟩:=sd'
  refine y4h e1 e3 g7 ht ?_
  rw [aN,cf,Option.map_map] at q
  exact q
 ·have ht : w.params.followText "set-order" = false:=by simpa using ht
  have ti : TI tb:=g9.resolve_left (by rw [ht]; exact ao)
  cases hd : (!tb.plain && decide (xs.size > 1)) with
  | false=>
   rw [if_neg (by simp)]
   have hu : SetTable.Up tb.place:=by
    have hp : tb.place.size=xs.size:=by
     unfold SetTable.fits at g7
     rw [aJ] at g7
     exact eq_of_beq g7.1
    cases hpl : tb.plain with
    | true=>exact ti.2 hpl
    | false=>
     rw [hpl] at hd
     have h1 : ¬ xs.size > 1:=by simpa using hd
     unfold SetTable.Up
     have h2 : tb.place.toList.length≤1:=by simp; omega
     match hl : tb.place.toList with
     | []=>exact .nil
     | [x]=>exact List.pairwise_singleton _ _
     | _ :: _ :: _=>rw [hl] at h2; simp at h2
   refine wpAny_bind (wpAny_pure ?_)
   refine wpAny_bind (wpAny_setEpoch_of g1 g3 g7 ?_)
   refine wpAny_bind (wpAny_newObj_type (wpAny_pure ⟨_,rfl, "set_iterator",_,⟨_,Heap.get?_push_size _ rfl,rfl⟩,sl_sit_next.lookup,?_⟩))
   refine plainCase (slP tb) (xs.toList.map (·.2)) rfl (.refl _) fun i hi s' sd' A' E' Q' q=>?_
   obtain ⟨o',e1,e3⟩:=sd'
   refine y2b e1 e3 g7 ht hd ti.1 hu hi ?_
   rw [aN,cf,Option.map_map] at q
   exact q
  | true=>
   rw [if_pos (by rw [ht]; rfl)]
   refine wpAny_bind (z6o xs.size (ag xs.size) s (by simp) fun ys dr hp=>?_)
   refine wpAny_bind (wpAny_newObj_type ?_ ?_)
   ·have e1 : ({ s with drawn:=dr,heap:=s.heap.push { cls:=.type "tuple",data:=.seq (ys.map fun (i : Nat)=>rawInt i).toArray } } : Shared).heap.get? a=some ob:=Heap.get?_push_of_some _ g1
    refine wpAny_bind (wpAny_setEpoch_of e1 g3 g7 ?_)
    refine wpAny_bind (wpAny_newObj_type (wpAny_pure ⟨_,rfl, "set_iterator",_,⟨_,Heap.get?_push_size _ rfl,rfl⟩,sl_sit_next.lookup,?_⟩))
    obtain ⟨gT,eT⟩ : ∃ gT : Heap,gT=s.heap.push { cls:=.type "tuple",data:=.seq (ys.map fun (i : Nat)=>rawInt i).toArray }:=⟨_,rfl⟩
    have sT : gT.objs.size=s.heap.objs.size + 1:=by rw [eT]; exact Heap.size_push ..
    have oT : gT.get? s.heap.objs.size=some { cls:=.type "tuple",data:=.seq (ys.map fun (i : Nat)=>rawInt i).toArray }:=by rw [eT]; exact Heap.get?_push_size _ rfl
    have old : ∀ b o,s.heap.get? b=some o->gT.get? b=some o:=fun b o e=>by rw [eT]; exact Heap.get?_push_of_some _ e
    have hyl : ys.length=xs.size:=by simpa using hp.length_eq
    have hyp : ∀ p∈ys,p < xs.size:=fun p hp'=>ad.mp (hp.mem_iff.mp hp')
    have hvp : (ys.filterMap fun p=>(xs[p]?).map (·.2)).Perm (xs.toList.map (·.2)):=by
     refine (hp.filterMap _).trans ?_
     rw [← filterMap_getElem?_range xs,List.map_filterMap]
    obtain ⟨z1,z2,z3⟩:=mem _ hvp
    have ne : a≠gT.objs.size:=aH (by rw [sT]; exact bz hlt)
    have ne2 : s.heap.objs.size≠gT.objs.size:=aH (by rw [sT]; exact cJ _)
    rw [← eT]
    refine hQ _ dr gT.objs.size [gT.objs.size,a,s.heap.objs.size] (ys.filterMap fun p=>(xs[p]?).map (·.2)) (fun i g=>g.SIt gT.objs.size a (.ref s.heap.objs.size) i xs.size ep∧g.SDt a xs ep tb∧∃ ob n,g.get? s.heap.objs.size=some ob∧ob.data = .seq (ys.map fun (p : Nat)=>Value.int p 0).toArray n) (fun b o e=>Heap.get?_push_of_some _ (old b o e)) (by rw [sT]; exact cn _) (fun b hb=>?_) (fun A' hh=>?_) ?_ z1 z2 z3
    ·simp only [ai,List.not_mem_nil,or_false] at hb
     rcases hb with z | z | z
     ·exact .inr (by rw [z,sT]; exact cn _)
     ·exact .inl z
     ·exact .inr (d7 z.symm)
    ·have W:=Walks.setB (ep:=ep) (prog:=prog) (w:=w) (A:=A') hh gT.objs.size a s.heap.objs.size ne ne2 g7 ys hyl hyp
     rw [g8] at W ⊢
     exact W
    ·exact ⟨⟨_,Heap.get?_push_size _ rfl,rfl,rfl⟩,z7e sd fun o e=>Heap.get?_push_of_some _ (old a o e),_,_,Heap.get?_push_of_some _ oT,rfl⟩
   ·show (ys.map fun (i : Nat)=>rawInt i).toArray.size≤sizeLine
    have hyl : ys.length=xs.size:=by simpa using hp.length_eq
    have : scanBound≤sizeLine:=by rw [sizeLine_eq]; decide
    simp
    omega
theorem y0s {a : Addr} {S : K->Bool} {n : Nat} {Q : List Value->Shared->Prop} (hh : A.in1.handled=none) (hS : s.heap.SetW knd a S n) (hn : n≤sizeLine)
  (fin : ∀ (g : Heap) (dr : Drawn) (tk : Nat) (acc : List Value),(∀ b o,s.heap.get? b=some o->g.get? b=some o)->acc.length=n->(∀ k,S k=true↔∃ v∈acc,knd.is k v=true)->(∀ v∈acc,∃ k,knd.is k v=true)->Q acc { s with heap:=g,drawn:=dr,toks:=tk }) : wpAny (model prog w) A (collect (.ref a)) Q E s:=by
 have hlt : (a : Nat) < s.heap.objs.size:=by
  obtain ⟨ob,xs,ep,tb,g1,_⟩:=hS
  exact Heap.lt_size g1
 have hSa : s.heap.objs.size≠a:=fun e=>bC _ (e ▸ hlt)
 unfold collect
 refine wpAny_bind (wpAny_runValue (codeAny_builtin F.entry_proto_collect ?_))
 rw [Around.under_plainId F.plain_proto_collect _]
 show wpAny _ A.in1 (newList [] >>= fun l=>again (.builtin "list.__iadd__" ⟨[l,.ref a],[]⟩)) _ _ s
 refine wpAny_bind (wpAny_newObj_type ?_)
 refine wpAny_pure ⟨plainId_quiet F.plain_list_iadd _,codeAny_builtin F.entry_list_iadd ?_⟩
 rw [Around.under_plainId F.plain_list_iadd _]
 obtain ⟨gA,eA⟩ : ∃ gA : Heap,gA=s.heap.push { cls:=.type "list",data:=.seq ([] : List Value).toArray }:=⟨_,rfl⟩
 have sA : gA.objs.size=s.heap.objs.size + 1:=by rw [eA]; exact Heap.size_push ..
 rw [← eA]
 have w1 : gA.SetW knd a S n:=y3R hS fun o e=>by rw [eA]; exact Heap.get?_push_of_some _ e
 have t1 : ({ s with heap:=gA } : Shared).TypeIs (.ref a) "set" := z6f w1
 have f1 : Builtin.List.listSameRef (.ref s.heap.objs.size) (.ref a)=false:=by simp [Builtin.List.listSameRef,hSa]
 have oA : gA.get? s.heap.objs.size=some { cls:=.type "list",data:=.seq ([] : List Value).toArray }:=by rw [eA]; exact Heap.get?_push_size _ rfl
 show wpAny _ A.in1 (Builtin.List.listExtendWith (.ref s.heap.objs.size) (.ref a) (.ref s.heap.objs.size)) _ _ _
 unfold Builtin.List.listExtendWith
 refine wpAny_bind (wpAny_typeOf t1 ?_)
 rw [if_neg (by rw [f1]; decide)]
 refine wpAny_bind (y6S (s:={ s with heap:=gA }) w1 fun gB dr I fp vs St kB hI hfp W0 st0 z1 z2 z3=>?_)
 refine wpAny_bind (wpAny_holding ?_)
 unfold Builtin.List.listLengthHint
 have t2 : ({ s with heap:=gB,drawn:=dr } : Shared).TypeIs (.ref a) "set" := z6f (y3R w1 fun o e=>kB a o e)
 refine wpAny_bind (wpAny_specialOf t2 y2y ?_)
 (generalize hid : ("set.__len__" : String)=id0; (fail_if_success (clear hid id0)); wp_delta; rw [show splitId id0=some ("set", "__len__") from by subst hid; decide +kernel]; subst hid)
 refine wpAny_bind (wpAny_isInstance (b:=true) t2 (by rw [isSubtype_type]; kernel_rfl) ?_)
 show wpAny _ A.in1 (typeOf (Value.ref a) >>= _) _ _ _
 refine wpAny_bind (wpAny_typeOf t2 ?_)
 refine wpAny_pure ?_
 show wpAny _ A.in1 (rule "list.extend.makes-room" >>= fun _=>Builtin.List.listTouch (.ref s.heap.objs.size) >>= fun _=>again (.builtin "list.extend.loop" ⟨[.ref s.heap.objs.size,.ref I,.ref s.heap.objs.size],[]⟩)) _ _ _
 refine wpAny_bind (wpAny_rule ?_)
 have W:=(W0 A.in1 hh).toS
 have oB : gB.get? s.heap.objs.size=some { cls:=.type "list",data:=.seq ([] : List Value).toArray }:=kB _ _ oA
 have hSf : s.heap.objs.size ∉ fp:=fun z=>by
  rcases hfp _ z with q | q
  ·exact hSa q
  ·rw [sA] at q
   exact absurd q (Nat.not_succ_le_self _)
 refine wpAny_bind ?_
 show wpAny _ A.in1 (updateSeq s.heap.objs.size (·.push .none) >>= fun _=>updateSeq s.heap.objs.size (·.pop)) _ _ _
 refine wpAny_bind (wpAny_updateSeq oB rfl ?_)
 have oC:=Heap.get?_update_self (Obj.mapSeq (·.push Value.none)) oB rfl
 refine wpAny_updateSeq oC rfl ?_
 have oD:=Heap.get?_update_self (Obj.mapSeq (·.pop)) oC rfl
 have oth : ∀ b o,b≠s.heap.objs.size->gB.get? b=some o->((gB.update s.heap.objs.size (Obj.mapSeq (·.push Value.none))).update s.heap.objs.size (Obj.mapSeq (·.pop))).get? b=some o:=fun b o hb e=>(Heap.get?_update_other _ _ (Ne.symm hb)).trans ((Heap.get?_update_other _ _ (Ne.symm hb)).trans e)
 refine wpAny_pure ⟨plainId_quiet F.plain_extend_loop _,codeAny_extend_loopS W hn _ hSf _ n 0 _ _ _ rfl (bA _) (W.frame 0 ({ s with heap:=gB,drawn:=dr } : Shared) _ s.toks st0 (ar _) fun b hb o e=>oth b o (fun h=>hSf (h ▸ hb)) e) oD (ItemsOf.nil _) fun s' acc c' mv hS' hacc=>?_⟩
 show wpAny _ A (load s.heap.objs.size >>= _) _ _ s'
 refine wpAny_bind (wpAny_load hS' ?_)
 have ea : acc.toList=vs:=by
  apply List.ext_getElem?
  intro i
  by_cases hi : i < n
  ·have hi' : i < acc.size:=by rw [hacc.1]; exact hi
   have:=hacc.2 i acc[i] (aX hi')
   rw [this,cf,aX hi']
  ·rw [bM (by rw [bQ,hacc.1]; omega),bM (by omega)]
 obtain ⟨g',gs,dr',tk',os'⟩:=s'
 have eg : gs=s.gens:=mv.gens
 have eo : os'=s.os:=mv.os
 subst eg; subst eo
 refine wpAny_pure ?_
 refine fin g' dr' tk' acc.toList (fun b o e=>?_) (by rw [ea]; exact z1) (by rw [ea]; exact z2) (by rw [ea]; exact z3)
 have hb : (b : Nat) < s.heap.objs.size:=Heap.lt_size e
 refine mv.heap b o (fun z=>?_) (oth b o (aH hb) (kB b o (by rw [eA]; exact Heap.get?_push_of_some _ e)))
 rcases ai.mp z with z | z
 ·exact aH hb z
 ·rw [am] at z
  rw [z] at hb
  rw [sA] at hI
  exact absurd (aP hb (bP hI)) (bC _)
end
end PySem
namespace L2
open PySem PySem.Spec PyProof.Rows
noncomputable def ddI (ns : List Int) : List Int:=ns.foldl (fun acc n=>if acc.any (· == n) then acc else acc ++ [n]) []
theorem y7s (ns : List Int) : firstMet (fun i=>ns.getD i 0) ns.length=ddI ns:=by
 unfold firstMet ddI
 have e : (ag ns.length).map (fun i=>ns.getD i 0)=ns:=by
  apply de
  ·simp
  ·intro i h1 h2
   simp [be,ae h2]
 rw [e]
 rfl
theorem z7s : ∀ (ns acc : List Int),acc.Nodup->(ns.foldl (fun acc n=>if acc.any (· == n) then acc else acc ++ [n]) acc).Nodup∧∀ x,x∈ns.foldl (fun acc n=>if acc.any (· == n) then acc else acc ++ [n]) acc↔x∈acc∨x∈ns
 | [],acc,h=>⟨h,fun x=>by simp⟩
 | n :: ns,acc,h=>by
  rw [List.foldl_cons]
  by_cases hn : acc.any (· == n)=true
  ·rw [if_pos hn]
   obtain ⟨a,b⟩:=z7s ns acc h
   refine ⟨a,fun x=>?_⟩
   rw [b x,ai]
   have : n∈acc:=by simpa using hn
   constructor
   ·rintro (z | z)
    ·exact .inl z
    ·exact .inr (.inr z)
   ·rintro (z | z | z)
    ·exact .inl z
    ·exact .inl (z ▸ this)
    ·exact .inr z
  ·rw [if_neg hn]
   have hn' : n ∉ acc:=by simpa using hn
   obtain ⟨a,b⟩:=z7s ns (acc ++ [n]) (ba.mpr ⟨h,by simp,fun x hx y hy z=>by rw [am] at hy; subst hy; exact hn' (z ▸ hx)⟩)
   refine ⟨a,fun x=>?_⟩
   rw [b x,aF,am,ai,or_assoc]
theorem z8p (ns : List Int) : (ddI ns).Nodup:=(z7s ns [] bf).1
theorem dd_mem {ns : List Int} {x : Int} : x∈ddI ns↔x∈ns:=by
 have:=(z7s ns [] bf).2 x
 unfold ddI
 rw [this]
 simp
theorem z5W : ∀ {l o : List Int},l.Nodup->(∀ x∈l,x∈o)->l.length=o.length->l.Perm o
 | [],o,_,_,h=>by
  have : o=[]:=dl (by simpa using h.symm)
  rw [this]
 | x :: l,o,nd,sub,h=>by
  have hx:=sub x ah
  have nd':=aC.mp nd
  have p:=List.perm_cons_erase hx
  have hl : (o.erase x).length + 1=o.length:=by
   have:=p.length_eq
   simpa using this.symm
  refine ((z5W nd'.2 (fun y hy=>?_) (by simp at h; omega)).cons x).trans p.symm
  have hy':=p.mem_iff.mp (sub y (ak _ hy))
  rcases ai.mp hy' with z | z
  ·exact absurd (z ▸ hy) nd'.1
  ·exact z
theorem z8Y {prog : Program} {w : World} : ∀ {vs : List Value},(∀ v∈vs,∃ k,(intKind prog w).is k v=true)->∃ ms : List Int,IntsAre vs ms∧∀ k,k∈ms↔∃ v∈vs,(intKind prog w).is k v=true
 | [],_=>⟨[],.nil,fun k=>by simp⟩
 | v :: vs,h=>by
  obtain ⟨ms,h1,h2⟩:=z8Y (prog:=prog) (w:=w) fun u hu=>h u (ak _ hu)
  obtain ⟨k,hk⟩:=h v ah
  obtain ⟨t,rfl⟩:=Value.isInt_shape (show Value.isInt k v=true from hk)
  refine ⟨k :: ms,.cons k t h1,fun k'=>?_⟩
  rw [ai,h2 k']
  constructor
  ·rintro (z | ⟨u,hu,q⟩)
   ·exact ⟨_,ah,z ▸ hk⟩
   ·exact ⟨u,ak _ hu,q⟩
  ·rintro ⟨u,hu,q⟩
   rcases ai.mp hu with z | z
   ·subst z
    exact .inl ((intKind prog w).inj _ _ _ q hk)
   ·exact .inr ⟨u,z,q⟩
section
variable {prog : Program} {w : World} {A : Around} {E : Value->Shared->Prop} {s : Shared}
theorem y0J {a : Addr} {ns : List Int} {Q : Value->Shared->Prop} (hh : A.handled=none) (hS : s.heap.SetW (intKind prog w) a (fun z=>(ddI ns).any (· == z)) (ddI ns).length) (h64 : (ddI ns).length < 64)
  (h : ∀ (g1 g' : Heap) (dr : Drawn) (tk : Nat) (out : List Value) (e : Nat),(∀ b o',s.heap.get? b=some o'->g1.get? b=some o')->(∀ b o',g1.get? b=some o'->g'.get? b=some o')->g'.get? g1.objs.size=some { cls:=.type "list",data:=.seq out.toArray e }->IntsAre out (z5F (ddI ns))->Q (.ref g1.objs.size) { s with heap:=g',drawn:=dr,toks:=tk }) :
  wpAny (model prog w) A (call (.builtin "sorted") [.ref a]) Q E s:=by
 refine Calls.call_function_entry kind_sorted plain_sorted entry_sorted (args_sorted1 _) ?_
 unfold Builtin.«sorted»
 refine wpAny_bind (m:=checkCount "sorted" 1 1 _) (wpAny_pure ?_)
 refine wpAny_bind (y0s hh hS (by rw [sizeLine_eq]; omega) fun g1 dr tk acc k1 z1 z2 z3=>?_)
 obtain ⟨ms,i1,i2⟩:=z8Y z3
 have hml : ms.length=acc.length:=i1.length.symm
 have pm : ms.Perm (ddI ns):=by
  refine (z5W (z8p ns) (fun x hx=>?_) (by omega)).symm
  rw [i2 x,← z2 x]
  simpa using hx
 refine wpAny_bind (wpAny_newList ?_)
 have oL : (g1.push (seqObj "list" acc.toArray 0)).get? g1.objs.size=some (seqObj "list" acc.toArray 0):=Heap.get?_push_size _ rfl
 show wpAny _ _ _ _ _ { s with heap:=g1.push (seqObj "list" acc.toArray 0),drawn:=dr,toks:=tk }
 refine wpAny_bind (wpAny_holding (wpAny_call_entry slot_list_sort ⟨_,oL,rfl⟩ entry_list_sort (list_sort_tree oL i1 (by omega) fun out ns' a1 a2 a3=>⟨_,rfl,?_⟩) (args_list_sort _)))
 obtain ⟨e,he⟩:=sortedHeap_at (out:=out) oL
 have es:=z4j (a2.trans pm) a3
 subst es
 refine wpAny_pure ⟨_,rfl,h g1 _ dr tk out.toList e k1 (fun b o' hb=>?_) (by simpa [seqObj] using he) a1⟩
 have hlt : b < g1.objs.size:=Heap.lt_size hb
 rw [sortedHeap_old (aH hlt) (by rw [size_push']; exact bz hlt)]
 exact Heap.get?_push_of_some _ hb
end
section
variable {X : Cx} {e : Expr} {te : TE} {p p' pos pos' : Pos}
theorem Inv.draw {pins : List (Addr × Obj)} {σ : List (Option V)} {H : Hp} {s : Shared} (I : Inv X pins σ H s) (dr : Drawn) : Inv X pins σ H { s with drawn:=dr }:=⟨I.ok,I.os,I.bare,I.base,I.loc,I.cell,I.free,I.freeC,I.pin,I.hok,I.len⟩
theorem y7l : bootBuiltins "set" = some (.type "set"):=by kernel_rfl
noncomputable def tSS (K : aa) (te : TE) : TE:=fun σ H Q=>te σ H fun x H1=>∃ (q : Addr) (ns : List Int),x = .ref q∧SqL K H1 q (ns.map V.int)∧(ns.length≤1000∧(ddI ns).length < 64)∧∀ l,H1 l=none->Q (.ref l) (upd H1 l (.lst ((z5F (ddI ns)).map V.int)))
theorem y2m (hc : X.calm=true) (hg : Gl X "sorted") (hm : X.mg "sorted" = none) (hg' : Gl X "set") (hm' : X.mg "set" = none) (ha : PE X e te)
  (he : starEach [e] X.env=[(false,eval e X.env)]:=by rfl) (he' : starEach [.Call (.Name "set" p') [e] [] pos'] X.env=[(false,eval (.Call (.Name "set" p') [e] [] pos') X.env)]:=by rfl) :
  PE X (.Call (.Name "sorted" p) [.Call (.Name "set" p') [e] [] pos'] [] pos) (tSS X.K te):=by
 intro pins s σ H Q I h
 refine wpAny_Call_Name_kw (z4H I hg hm boot_sorted ?_)
 refine callWith_builtin1 ?_ he' rfl
 rw [he']
 show wpAny _ _ (spliced [(false,eval (.Call (.Name "set" p') [e] [] pos') X.env)]) _ _ s
 refine Calls.spliced_cons ?_
 refine wpAny_Call_Name_kw (z4H I hg' hm' y7l ?_)
 refine callWith_type1 ?_ he rfl
 rw [he]
 show wpAny _ _ (spliced [(false,eval e X.env)]) _ _ s
 refine Calls.spliced_cons (thn (ha pins s σ H _ I h) fun u s1 ⟨x,H1,I1,r1,q1⟩=>?_)
 refine Calls.spliced_nil ?_
 obtain ⟨q,ns,rfl,hq,h64,k⟩:=q1
 cases r1
 obtain ⟨its,rv,pl,hz⟩:=I1.list hq
 have hi:=y2v rv
 have hlen : its.length=ns.length:=by have:=rv.length; simpa using this.symm
 refine y3I (I1.ok.hd hc) pl.isList hi (by have:=h64.1; simp; unfold scanBound; omega) fun g' tk w1 w2=>?_
 refine Calls.spliced_nil ?_
 have esz : its.toArray.size=ns.length:=by simpa using hlen
 rw [esz,y7s] at w1
 have I2 : Inv X pins σ H1 { s1 with heap:=g',toks:=tk }:=I1.kept fun b o e=>w2 b o (Heap.lt_size e) e
 refine y0J (I2.ok.hd hc) w1 h64.2 fun g1 g2 dr tk' out e k1 k2 ho ho2=>?_
 have I3 : Inv X pins σ H1 { s1 with heap:=g1,toks:=tk,drawn:=dr }:=(I2.kept (t':=tk) k1).draw dr
 refine ⟨.ref g1.objs.size,_,Inv.laid (s:={ s1 with heap:=g1,toks:=tk,drawn:=dr }) (t':=tk') I3 k2 (ar _) (show ObjOk X.prog X.w _ g2 _ (.lst ((z5F (ddI ns)).map V.int)) from ⟨?_,out,e,y6F ho2,ho⟩),rfl,k _ (I3.hok.fresh (ar _))⟩
 have:=(z5V (ddI ns)).length_eq
 have:=h64.2
 rw [aq,sizeLine_eq]
 omega
noncomputable def z9a : D->Option (List D)
 | .lst ds=>(z3h ds).bind fun ns=>if ns.length≤1000∧(ddI ns).length < 64 then some ((z5F (ddI ns)).map .int) else none
 | _=>none
noncomputable def y1s (f : DE) : DS->Option (List D):=fun δ=>(f δ).bind z9a
variable {f : DE}
theorem y2q (hc : X.calm=true) (hg : Gl X "sorted") (hm : X.mg "sorted" = none) (hg' : Gl X "set") (hm' : X.mg "set" = none) (ha : PD X e f)
  (he : starEach [e] X.env=[(false,eval e X.env)]:=by rfl) (he' : starEach [.Call (.Name "set" p') [e] [] pos'] X.env=[(false,eval (.Call (.Name "set" p') [e] [] pos') X.env)]:=by rfl) :
  PF X (.Call (.Name "sorted" p) [.Call (.Name "set" p') [e] [] pos'] [] pos) (y1s f):=(y2m hc hg hm hg' hm' ha he he').imp fun σ H Q z_=>by
 obtain ⟨B,δ,ds',hB,S,q,k⟩:=z_
 unfold y1s at q
 cases e1 : f δ with
 | none=>rw [e1] at q; cases q
 | some d=>
 rw [e1,ax] at q
 refine ⟨B,δ,d,hB,S,e1,fun v H1 s1 r1=>?_⟩
 unfold z9a at q
 split at q
 ·rename_i es
  cases e2 : z3h es with
  | none=>rw [e2] at q; cases q
  | some ns=>
   rw [e2,ax] at q
   split at q
   ·rename_i h64
    cases q
    unfold Rep at r1
    obtain ⟨a,xs,rfl,_,h,rs⟩:=r1
    rw [z9t e2 rs] at h
    exact ⟨a,ns,rfl,SqL.of h,h64,fun l hl=>k l _ _ (s1.trans (z0r hl)) (s1.free hl) z0o (z1M _)⟩
   ·cases q
 ·cases q
end
end L2
namespace L2
open PySem PySem.Spec PyProof.Rows
section
variable {X : Cx} {a b : Expr} {pos : Pos} {f g : DE}
end
end L2
namespace L2
open PySem PySem.Spec PyProof.Rows
section
variable {X : Cx} {e : Expr} {p p2 pos : Pos}
end
end L2
namespace L2
open PySem PySem.Spec PyProof.Rows
section
variable {X : Cx} {e : Expr} {te : TE} {p p' pos pos' : Pos}
variable {f : DE}
end
end L2
namespace L2
open PySem PySem.Spec PyProof.Rows
section
variable {X : Cx} {a b : Expr} {pos : Pos} {f g : DE}
end
end L2
namespace L2
open PySem PySem.Spec PyProof.Rows
section
variable {X : Cx} {c : Expr} {a b : List Stmt} {p2 pos : Pos} {H0 : Hp} {B0 : Addr->Prop} {fr : Bool} {RX : XR} {F : DS->Option XO} {g h : SS->Option Out}
end
end L2
namespace L2
open PySem PySem.Spec PyProof.Rows
section
variable {X : Cx} {x : Str} {C : Addr} {np cpos : Pos} {e₀ : Expr} {te : TE} {f : DE}
end
end L2
namespace L2
open PySem PySem.Spec PyProof.Rows
section
variable {X : Cx} {pos : Pos} {H0 : Hp} {B0 : Addr->Prop} {fr : Bool} {RX : XR} {F : DS->Option XO}
end
end L2
namespace L2
open PySem PySem.Spec PyProof.Rows
noncomputable def spM2 (K : aa) (F : List D->Option D) : Sp:=fun vs H Q _=>∃ u v r du d0 ds d A,vs=u :: v :: r∧Rep K H (fun a=>a∈A) du u∧Tree K H d0 v A∧A.Nodup∧Reps K H (fun a=>a∈A) ds r∧F (du :: d0 :: ds)=some d ∧
 ∀ v' H' A',Same (y0G H A) H'->Tree K H' d v' A'->A'.Nodup->(∀ a∈A',a∈A∨H a=none)->(∀ a,H' a=none->H a=none)->Q v' H'
noncomputable def y0H (np nl : Nat) (g : SS->Option Out) : List D->Option D:=fun ds=>match ds with
 | du :: d0 :: ds=>if ds.length + 2=np then (match g (some (.sh du) :: some (.ow d0) :: ds.map (fun d=>some (.sh d)) ++ aj nl none) with
  | some (.rt d)=>some d
  | some (.nx _)=>some .non
  | _=>none) else none
 | _=>none
theorem y2p {K : aa} {H : Hp} {du d0 : D} {u v : V} {A : List Addr} {ds : List D} {vs : List V} {N : List Str} {nl : Nat} (ru : Rep K H (fun a=>a∈A) du u) (t : Tree K H d0 v A) (nd : A.Nodup) (r : Reps K H (fun a=>a∈A) ds vs) (hN : N.length=ds.length + 2 + nl) :
  RS K (y0G H A) noB H (z4d N (u :: v :: vs)) (some (.sh du) :: some (.ow d0) :: ds.map (fun d=>some (.sh d)) ++ aj nl none) (fun r=>if r=1 then A else []):=by
 have hl:=r.length
 have get : ∀ {i : Nat} {x : SD},(some (SD.sh du) :: some (SD.ow d0) :: ds.map (fun d=>some (SD.sh d)) ++ aj nl none)[i]? = some (some x)->(i=0∧x = .sh du)∨(i=1∧x = .ow d0)∨∃ j d,i=j + 2∧ds[j]? = some d∧x = .sh d:=fun {i x} e=>by
  cases i with
  | zero=>simp at e; exact .inl ⟨rfl,e.symm⟩
  | succ i=>
  cases i with
  | zero=>simp at e; exact .inr (.inl ⟨rfl,e.symm⟩)
  | succ j=>
   have e' : (ds.map (fun d=>some (SD.sh d)) ++ aj nl none)[j]? = some (some x):=by simpa using e
   by_cases hi : j < ds.length
   ·rw [a9 (by simpa using hi),aN,ae hi] at e'
    cases e'
    exact .inr (.inr ⟨j,ds[j],rfl,ae hi,rfl⟩)
   ·rw [bv (by simpa using hi),bI] at e'
    split at e' <;> cases e'
 have mem : ∀ r a,a∈(if r=1 then A else [])->r=1∧a∈A:=fun r a z=>by
  split at z
  ·exact ⟨by assumption,z⟩
  ·cases z
 refine ⟨y2N,(fun _ z=>z.elim),?_,fun r a z=>y1u (mem r a z).2,fun r a z=>t.held d0 a (mem r a z).2,fun r s a z z'=>by rw [(mem r a z).1,(mem s a z').1],fun i d e=>?_,fun i r d e=>?_,fun i d e=>?_⟩
 ·unfold z4d
  simp
  omega
 ·rcases get e with ⟨rfl,q⟩ | ⟨_,q⟩ | ⟨j,d',rfl,e1,q⟩
  ·cases q
   refine ⟨u,?_,ru.anti fun a z=>?_⟩
   ·unfold z4d
    simp
   ·rcases z with z | ⟨r,z⟩
    ·exact z.elim
    ·exact (mem r a z).2
  ·cases q
  ·cases q
   obtain ⟨u',e3,rv⟩:=r.get e1
   refine ⟨u',?_,rv.anti fun a z=>?_⟩
   ·unfold z4d
    have hi : j < vs.length:=(a7.mp e3).1
    rw [a9 (by simp; omega),aN]
    simp [e3]
   ·rcases z with z | ⟨r,z⟩
    ·exact z.elim
    ·exact (mem r a z).2
 ·rcases get e with ⟨_,q⟩ | ⟨_,q⟩ | ⟨j,d',rfl,e1,q⟩ <;> cases q
 ·rcases get e with ⟨_,q⟩ | ⟨rfl,q⟩ | ⟨j,d',rfl,e1,q⟩
  ·cases q
  ·cases q
   refine ⟨v,?_,t,nd⟩
   unfold z4d
   simp
  ·cases q
section
variable {P : Program} {w : World} {K : aa} {mg : Str->Option Value} {base : Heap}
theorem defM2 {x qual : Str} {st : Stmt} {f : Addr} {fd : FuncData} {N ps : List Str} {k np nl : Nat} {g : SS->Option Out} (F : Fun K x qual st f fd) (hm : mg x=some (.ref f)) (hb : Binds K fd ps []) (S : FnScope N ps (z0b st)) (hnp : ps.length=np) (hN : N.length=np + nl)
  (hbody : ∀ (cdv : Value) (A : Around) (outer : List Env) (s : Shared) (H H0 : Hp) (E : XK),Room k (A.deeper (envOfC qual (z0b st) s.heap.objs.size f cdv)) →
   PSs (z9R CX0 P w K mg base N qual (z0b st) f cdv A outer s H E).nox (z0l st) (tS K H0 noB true noX g)) : DefOk P w K mg base (k + 1) x (spM2 K (y0H np nl g)):=by
 refine ⟨f,fd,ps,hm,F.kp,hb,F.ok S (fun vs H Q E h=>?_) fun cdv A outer s H vs Q E hr h=>?_⟩
 ·obtain ⟨u,v,r,du,d0,ds,d,A,rfl,_,_,_,rr,e,_⟩:=h
  unfold y0H at e
  simp only at e
  split at e
  ·rename_i hl
   rw [a8,a8,← rr.length,hnp]
   omega
  ·cases e
 ·obtain ⟨u,v,r,du,d0,ds,d,A',rfl,ru,t,nd,rr,e,kk⟩:=h
  refine ⟨_,hbody cdv A outer s H (y0G H A') E hr,?_⟩
  have hl : ds.length + 2=np:=by
   unfold y0H at e
   simp only at e
   split at e
   ·assumption
   ·cases e
  have e' : (match g (some (.sh du) :: some (.ow d0) :: ds.map (fun d=>some (.sh d)) ++ aj nl none) with | some (.rt d)=>some d | some (.nx _)=>some D.non | _=>none)=some d:=by
   unfold y0H at e
   simp only [if_pos hl] at e
   exact e
  have rs:=y2p (nl:=nl) (N:=N) ru t nd rr (by omega)
  have fr : ∀ a,y0G H A' a=none->a∈A'∨H a=none:=fun a z=>by
   by_cases h : a∈A'
   ·exact .inl h
   ·rw [z6t h] at z; exact .inr z
  split at e'
  ·rename_i d' eg
   cases e'
   exact ⟨_,_,_,rs,eg,fun v H' z th=>by
    obtain ⟨A2,t2,nd2,fr2⟩:=z.2.1 rfl
    exact kk v H' A2 z.1 t2 nd2 (fun a ha=>fr a (fr2 a ha)) th⟩
  ·rename_i δ' eg
   cases e'
   exact ⟨_,_,_,rs,eg,fun σ' H' R' rs' st'=>kk .non H' [] rs'.keep ⟨rfl,rfl⟩ bf (fun a z=>nomatch z) st'.there⟩
  ·cases e'
end
noncomputable def z6e (F : List D->Option D) (f0 f1 : DE) (fl : List DE) : DE:=fun δ=>(f0 δ).bind fun a=>(f1 δ).bind fun b=>(z0q fl δ).bind fun cs=>F (a :: b :: cs)
section
variable {X : Cx} {k : Nat} {x : Str} {p pos : Pos} {e e' : Expr} {es : List Expr}
theorem z9p {F : List D->Option D} {f0 f1 : DE} {fl : List DE} (G : DefOk X.prog X.w X.K X.mg X.base k x (spM2 X.K F)) (hr : Room k X.A) (hg : Gl X x) (h0 : PD X e f0) (h1 : PN X e' f1) (ha : PAD X es fl) (hdb : (x == ("__debug__" : Str))=false:=by decide)
  (he : starEach (e :: e' :: es) X.env=(false,eval e X.env) :: starEach (e' :: es) X.env:=by rfl) (he1 : starEach (e' :: es) X.env=(false,eval e' X.env) :: starEach es X.env:=by rfl) (hpl : (backTo pos (starEach (e' :: es) X.env)).any (·.1)=false:=by rfl) : PN X (.Call (.Name x p) (e :: e' :: es) [] pos) (z6e F f0 f1 fl):=
 (z8m G hr hg (z1x h0 (z1x h1 ha he1) he) hdb he hpl).imp fun σ H Q z_=>by
  obtain ⟨δ,d,S,q,k⟩:=z_
  unfold z6e at q
  cases e0 : f0 δ with
  | none=>rw [e0] at q; cases q
  | some a=>
  cases e1 : f1 δ with
  | none=>rw [e0,e1] at q; cases q
  | some b=>
  cases e2 : z0q fl δ with
  | none=>rw [e0,e1,e2] at q; cases q
  | some cs=>
  rw [e0,e1,e2] at q
  have q : F (a :: b :: cs)=some d:=q
  refine ⟨noB,δ,a,.no,S,e0,fun u H1 s1 r1=>⟨δ,b,S.mono s1,e1,fun v H2 A s2 t2 nd2 f2=>?_⟩⟩
  have S2 : RepS X.K H2 (fun x=>x∈A) σ δ:=((RepS.wide (C:=fun x=>x∈A) (S.mono s1) f2).anti fun x z=>.inr z).mono s2
  refine ⟨fun x=>x∈A,δ,cs,fun x z=>?_,S2,e2,fun vs H3 s3 r3=>?_⟩
  ·obtain ⟨o,qo,_⟩:=t2.held b x z
   exact ⟨o,qo⟩
  show spM2 X.K F ((u :: v :: vs) ++ []) H3 Q E0
  rw [aL]
  have ru : Rep X.K H3 (fun x=>x∈A) a u:=((Rep.wide (C:=fun x=>x∈A) f2 a r1).anti fun x z=>.inr z).mono (s2.trans s3)
  refine ⟨u,v,vs,a,b,cs,d,A,rfl,ru,t2.mono s3,nd2,r3,q,fun v' H' A' s' t' nd' fr' th'=>?_⟩
  refine k v' H' A' (fun x o ex=>?_) t' nd' fun x hx=>?_
  ·refine s' x o ?_
   have ex1:=s1 x o ex
   rw [z6t fun z=>by rw [f2 x z] at ex1; cases ex1]
   exact s3 x o (s2 x o ex1)
  ·rcases fr' x hx with z | z
   ·exact s1.free (f2 x z)
   ·exact s1.free (s2.free (s3.free z))
variable {H0 : Hp} {B0 : Addr->Prop} {RX : XR} {a : Expr} {pos' : Pos}
noncomputable def ret1 (i : Nat) : SS->Option Out:=fun δ=>(z6X δ i).map fun d=>.rt (.lst [d])
theorem s_ret1 {i : Nat} (ha : PE X a (z7x i)) (hs : starEach [a] X.env=(false,eval a X.env) :: starEach [] X.env:=by rfl) :
  PS X (.Return (some (.List [a] pos')) pos) (tS X.K H0 B0 true RX (ret1 i)):=PS.imp (z7c (y4I (z1x ha pa_nil hs))) fun D σ H z_=>by
 obtain ⟨δ,R,o,rs,q,k⟩:=z_
 unfold ret1 at q
 cases h1 : z6X δ i with
 | none=>rw [h1] at q; cases q
 | some d=>
  rw [h1] at q
  cases q
  obtain ⟨v,A,e1,t1,n1,m1⟩:=z5M rs h1
  refine ⟨v,e1,by show 1≤sizeLine; rw [sizeLine_eq]; omega,fun p hp=>?_⟩
  have sp:=z0r (o:=.lst [v]) hp
  have hold : ∀ x,x∈A->H x≠none:=fun x hx z=>by
   obtain ⟨o,q,_⟩:=t1.held _ x hx
   rw [z] at q; cases q
  refine k (.ref p) _ ⟨rs.keep.trans sp,fun _=>⟨p :: A,?_,aC.mpr ⟨fun z=>hold p z hp,n1⟩,fun x hx=>?_⟩,fun z=>by cases z⟩ fun x z=>sp.free z
  ·unfold Tree
   refine ⟨p,[v],A,rfl,z0o,?_,rfl⟩
   unfold Trees
   exact ⟨v,[],A,[],rfl,t1.mono sp,⟨rfl,rfl⟩,by simp⟩
  ·rcases ai.mp hx with z | z
   ·rw [z]; exact rs.keep.free hp
   ·exact rs.new i x (m1 x z)
end
end L2
namespace L2
open PySem PySem.Spec PyProof.Rows
section
variable {K : aa} {H0 H : Hp} {B0 : Addr->Prop} {σ : St} {δ : SS} {R : Nat->List Addr}
noncomputable def givS (i j : Nat) (d : D) (δ : SS) : SS:=((z0y i (z0y j δ)).set j none).set i (some (.ow d))
theorem z7Y {i j k : Nat} {d : D} {x : SD} (h : (givS i j d δ)[k]? = some (some x)) : (k=i∧x = .ow d)∨(k≠i∧k≠j∧δ[k]? = some (some x)∧(∀ d,x≠.bo i d)∧∀ d,x≠.bo j d):=by
 unfold givS at h
 rcases z1V h with ⟨e,q,hl⟩ | ⟨hk,q⟩
 ·cases q
  exact .inl ⟨e,rfl⟩
 ·rcases z1V q with ⟨e,q',_⟩ | ⟨hj,q'⟩
  ·cases q'
  ·obtain ⟨q1,n1⟩:=z2r q'
   obtain ⟨q2,n2⟩:=z2r q1
   exact .inr ⟨hk,hj,q2,n1,n2⟩
theorem RS.give {i j : Nat} {d d' : D} {a : Addr} {o : HO} {v : V} {A' : List Addr} (hij : i≠j) (h : RS K H0 B0 H σ δ R) (hi : δ[i]? = some (some (.ow d))) (hv : σ[i]? = some (some v)) (ha : a∈R i) (t : Tree K (upd H a o) d' v A') (nd : A'.Nodup) (sub : ∀ b∈A',b∈R i∨b∈R j) :
  RS K H0 B0 (upd H a o) σ (givS i j d' δ) (z5t (z5t R j []) i A')∧Stp R H (z5t (z5t R j []) i A') (upd H a o):=by
 obtain ⟨oa,ea,ma⟩:=h.held i a ha
 have mH : Mut (H a):=by rw [ea]; exact ma
 have mem : ∀ r b,b∈z5t (z5t R j []) i A' r->(r=i∧(b∈R i∨b∈R j))∨(r≠i∧r≠j∧b∈R r):=fun r b z=>by
  by_cases hr : r=i
  ·subst hr; rw [z0C] at z; exact .inl ⟨rfl,sub b z⟩
  ·rw [z0Y hr] at z
   by_cases hj : r=j
   ·subst hj; rw [z0C] at z; cases z
   ·rw [z0Y hj] at z; exact .inr ⟨hr,hj,z⟩
 have some' : ∀ r b,b∈z5t (z5t R j []) i A' r->∃ s,b∈R s:=fun r b z=>by
  rcases mem r b z with ⟨_,z | z⟩ | ⟨_,_,z⟩
  ·exact ⟨i,z⟩
  ·exact ⟨j,z⟩
  ·exact ⟨r,z⟩
 have kt : KeepI K H (upd H a o):=(Keep.upd (K:=K) (B:=fun x=>x=a) rfl mH).i
 refine ⟨⟨fun b u q=>?_,h.inB,by simp [givS,z0y,h.len],fun r b z=>?_,fun r b z=>?_,fun r s b z z'=>?_,fun k d2 z=>?_,fun k r2 d2 z=>?_,fun k d2 z=>?_⟩,⟨fun b u q n=>?_,fun r b z=>.inl (some' r b z),fun b z=>?_⟩⟩
 ·have ne : b≠a:=fun z=>by subst z; rw [h.new i b ha] at q; cases q
  rw [z0t ne]; exact h.keep b u q
 ·obtain ⟨s,z⟩:=some' r b z
  exact h.new s b z
 ·by_cases hr : r=i
  ·subst hr; rw [z0C] at z; exact t.held d' b z
  ·rcases mem r b z with ⟨e,_⟩ | ⟨_,_,z⟩
   ·exact absurd e hr
   ·have ne : b≠a:=fun q=>hr (h.disj r i b z (q ▸ ha))
    rw [z0t ne]; exact h.held r b z
 ·rcases mem r b z with ⟨e1,z⟩ | ⟨n1,n1',z⟩ <;> rcases mem s b z' with ⟨e2,z'⟩ | ⟨n2,n2',z'⟩
  ·rw [e1,e2]
  ·rcases z with z | z
   ·exact absurd (h.disj s i b z' z) n2
   ·exact absurd (h.disj s j b z' z) n2'
  ·rcases z' with z' | z'
   ·exact absurd (h.disj r i b z z') n1
   ·exact absurd (h.disj r j b z z') n1'
  ·exact h.disj r s b z z'
 ·rcases z7Y z with ⟨_,q⟩ | ⟨_,_,q,_,_⟩
  ·cases q
  ·obtain ⟨w,e1,r⟩:=h.sh k d2 q
   refine ⟨w,e1,Rep.anti ?_ d2 (Rep.keep (.upd (.inr ⟨i,ha⟩) mH) d2 r)⟩
   rintro b (z | ⟨s,z⟩)
   ·exact .inl z
   ·exact .inr (some' s b z)
 ·rcases z7Y z with ⟨_,q⟩ | ⟨_,_,q,n1,n2⟩
  ·cases q
  ·have hr : i≠r2:=fun e=>n1 d2 (by rw [e])
   have hr' : j≠r2:=fun e=>n2 d2 (by rw [e])
   obtain ⟨w,e1,r⟩:=h.bo k r2 d2 q
   refine ⟨w,e1,Rep.anti ?_ d2 (Rep.keep (.upd (.inr ⟨i,hr,ha⟩) mH) d2 r)⟩
   rintro b (z | ⟨s,hs,z⟩)
   ·exact .inl z
   ·rcases mem s b z with ⟨_,z | z⟩ | ⟨_,_,z⟩
    ·exact .inr ⟨i,hr,z⟩
    ·exact .inr ⟨j,hr',z⟩
    ·exact .inr ⟨s,hs,z⟩
 ·rcases z7Y z with ⟨e,q⟩ | ⟨n1,n2,q,_,_⟩
  ·cases q
   subst e
   rw [z0C]
   exact ⟨v,hv,t,nd⟩
  ·obtain ⟨w,e1,t',nd'⟩:=h.ow k d2 q
   rw [z0Y n1,z0Y n2]
   refine ⟨w,e1,Tree.keep kt d2 t' fun b hb u q=>?_,nd'⟩
   have ne : b≠a:=fun z=>by subst z; exact n1 (h.disj k i b hb ha)
   rw [z0t ne]; exact q
 ·have ne : b≠a:=fun z=>n i (z ▸ ha)
  rw [z0t ne]; exact q
 ·by_cases hb : b=a
  ·subst hb; rw [z0o] at z; cases z
  ·rw [z0t hb] at z; exact z
end
section
variable {X : Cx} {H0 : Hp} {B0 : Addr->Prop} {fr : Bool} {RX : XR} {e : Expr} {pos ap cp : Pos} {x : Str} {px : Pos}
noncomputable def appO (i j : Nat) : SS->Option Out:=fun δ=>match δ[j]?,δ[i]? with
 | some (some (.ow d)),some (some (.ow (.lst ds)))=>(z7P ds [d]).map fun ds'=>.nx (givS i j (.lst ds') δ)
 | _,_=>none
theorem s_appO {i j : Nat} (hij : i≠j) (hx : PE X (.Name x px) (z7x i)) (he : PE X e (z7x j)) (hbase : attributeBase (.Name x px) "append" X.env (eval (.Name x px) X.env)=eval (.Name x px) X.env:=by rfl)
  (hfew : ((backTo cp (starEach [e] X.env)).all (fun x=>!x.1) && (backToKw cp (keywordEach [] X.env)).all (fun x=>x.1.isSome) && decide ([e].length + ([] : List Keyword).length + (if ([] : List Keyword).isEmpty then 0 else 1) < 30))=true:=by rfl)
  (hline : (ap.endLine == cp.line)=true:=by rfl) (hs : starEach [e] X.env=(false,eval e X.env) :: starEach [] X.env:=by rfl) (hsw : swapsWith (.Call (.Attribute (.Name x px) "append" ap) [e] [] cp) none pos.line X.env=pure false:=by rfl) :
  PS X (.Expr (.Call (.Attribute (.Name x px) "append" ap) [e] [] cp) pos) (tS X.K H0 B0 fr RX (appO i j)):=
 PS.imp (z5c (y3p PySem.F.plainAttrs_list PySem.F.slot_list_append PySem.F.type_list_append z4T hx (z1x he pa_nil hs) hbase hfew hline hs rfl) hsw) fun D σ H z_=>by
  obtain ⟨δ,R,o,rs,q,k⟩:=z_
  unfold appO at q
  split at q
  case h_2=>cases q
  case h_1=>
  rename_i d ds ej ei
  cases e2 : z7P ds [d] with
  | none=>rw [e2] at q; cases q
  | some ds'=>
  rw [e2] at q
  cases q
  obtain ⟨a,xs,A,ev,ha,ts,eR,nd⟩:=rs.top ei
  obtain ⟨v,ev2,t2,nC⟩:=rs.ow j d ej
  refine ⟨.ref a,ev,.inl ⟨rfl,xs,SqL.of ha⟩,v,ev2,?_⟩
  show z8u (.ref a) [v] H fun _ H1=>D.nx σ H1
  refine z5Y (K:=X.K) H a xs ds [d] [v] ds' _ ha ts.length (.one (t2.rep d (fun _ _ z=>z.elim))) e2 fun w xs' up=>?_
  obtain ⟨A',t',n',sub⟩:=up H A (R j) ts (.one t2)
  have hAC : (A ++ R j).Nodup:=ba.mpr ⟨(aC.mp nd).2,nC,fun b hb c hc z=>by
   subst z
   exact hij (rs.disj i j b (by rw [eR]; exact ak _ hb) hc)⟩
  have haR : a∈R i:=by rw [eR]; exact ah
  have mH : Mut (H a):=by rw [ha]; exact trivial
  have nA : ∀ b∈A',b≠a:=fun b hb z=>by
   rcases sub b hb with q | q
   ·exact (aC.mp nd).1 (z ▸ q)
   ·exact hij (rs.disj i j a haR (z ▸ q))
  have T : Tree X.K (upd H a (.lst xs')) (.lst ds') (.ref a) (a :: A'):=by
   unfold Tree
   refine ⟨a,xs',A',rfl,z0o,Trees.keep (Keep.upd (K:=X.K) (B:=fun x=>x=a) rfl mH).i ds' t' fun b hb o q=>?_,rfl⟩
   rw [z0t (nA b hb)]; exact q
  have P:=rs.give hij ei ev haR T (aC.mpr ⟨fun z=>nA a z rfl,n' hAC⟩) fun b hb=>by
   rcases ai.mp hb with z | z
   ·rw [z]; exact .inl haR
   ·exact (sub b z).imp (fun q=>by rw [eR]; exact ak _ q) id
  exact k σ _ _ P.1 P.2
end
section
variable {X : Cx} {pos : Pos}
variable {H0 : Hp} {B0 : Addr->Prop} {fr : Bool} {RX : XR}
@[irreducible] def PSb (X : Cx) (st : Stmt) (t : TS) : Prop:=PS X st t
@[irreducible] def PSsb (X : Cx) (st : List Stmt) (t : TS) : Prop:=PSs X st t
end
section
variable {P : Program} {w : World} {K : aa} {mg : Str->Option Value} {base : Heap}
end
end L2
namespace L2
open PySem PySem.Spec PyProof.Rows
section
variable {X : Cx} {H0 : Hp} {B0 : Addr->Prop} {fr : Bool} {RX : XR} {x : Str} {px p2 ap cp pos : Pos} {ke : Expr} {fk : DE}
end
end L2
namespace L2
open PySem PySem.Spec PyProof.Rows
section
variable {X : Cx} {H0 : Hp} {B0 : Addr->Prop} {fr : Bool} {RX : XR} {e : Expr} {f : DE} {pos ap cp : Pos} {x : Str} {px : Pos}
noncomputable def y3B (i : Nat) (f : DE) : SS->Option Out:=fun δ=>(f (z0u δ)).bind fun d=>(match d,δ[i]? with
 | .lst es,some (some (.ow (.lst ds)))=>if z2l es=true∧ds.length + es.length≤sizeLine then some (.nx ((z0y i δ).set i (some (.ow (.lst (ds ++ es)))))) else none
 | _,_=>none)
theorem y3G {i : Nat} (hx : PE X (.Name x px) (z7x i)) (he : PD X e f) (hbase : attributeBase (.Name x px) "extend" X.env (eval (.Name x px) X.env)=eval (.Name x px) X.env:=by rfl)
  (hfew : ((backTo cp (starEach [e] X.env)).all (fun x=>!x.1) && (backToKw cp (keywordEach [] X.env)).all (fun x=>x.1.isSome) && decide ([e].length + ([] : List Keyword).length + (if ([] : List Keyword).isEmpty then 0 else 1) < 30))=true:=by rfl)
  (hline : (ap.endLine == cp.line)=true:=by rfl) (hs : starEach [e] X.env=(false,eval e X.env) :: starEach [] X.env:=by rfl) (hsw : swapsWith (.Call (.Attribute (.Name x px) "extend" ap) [e] [] cp) none pos.line X.env=pure false:=by rfl) :
  PS X (.Expr (.Call (.Attribute (.Name x px) "extend" ap) [e] [] cp) pos) (tS X.K H0 B0 fr RX (y3B i f)):=
 PS.imp (z5c (y3p PySem.F.plainAttrs_list PySem.F.slot_list_extend PySem.F.type_list_extend z9x hx (z1x he pa_nil hs) hbase hfew hline hs rfl) hsw) fun D σ H z_=>by
  obtain ⟨δ,R,o,rs,q,k⟩:=z_
  unfold y3B at q
  cases e1 : f (z0u δ) with
  | none=>rw [e1] at q; cases q
  | some d=>
  rw [e1,ax] at q
  split at q
  case h_2=>cases q
  case h_1 es ds ei=>
  split at q
  case isFalse=>cases q
  case isTrue hl=>
  cases q
  obtain ⟨a,xs,A,ev,ha,ts,eR,nd⟩:=rs.top ei
  refine ⟨.ref a,ev,.inl ⟨rfl,xs,SqL.of ha⟩,noB,z0u δ,_,.no,rs.all,e1,fun y H2 s2 r2=>?_⟩
  unfold Rep at r2
  obtain ⟨b,zs,rfl,_,hb,rz⟩:=r2
  refine ⟨a,b,xs,zs,rfl,rfl,s2 _ _ ha,hb,by rw [← ts.length,← rz.length]; exact hl.2,?_⟩
  have tz:=rz.immTree es hl.1
  have P:=rs.put0 s2 ei ev eR nd ((ts.mono s2).append tz) (by rw [aL]; exact (aC.mp nd).2) fun p hp=>.inl (by rw [aL] at hp; exact hp)
  exact k σ _ _ P.1 P.2
end
section
variable {X : Cx} {pos : Pos}
variable {H0 : Hp} {B0 : Addr->Prop} {fr : Bool} {RX : XR}
end
end L2
namespace L2
open PySem PySem.Spec PyProof.Rows
section
variable {X : Cx} {e : Expr} {f : DE} {y z : Str} {p p2 p3 p4 pos : Pos} {x1 : Nat} {L M1 M2 N : List Str}
end
end L2
namespace L2
open PySem PySem.Spec PyProof.Rows
section
variable {X : Cx} {o e : Expr} {apos cpos : Pos}
end
section
variable {X : Cx} {H0 : Hp} {B0 : Addr->Prop} {fr : Bool} {RX : XR} {e ke : Expr} {pos : Pos} {x : Str} {px p2 : Pos}
end
end L2
namespace L2
open PySem PySem.Spec PyProof.Rows
section
variable {X : Cx} {H0 : Hp} {B0 : Addr->Prop} {fr : Bool} {RX : XR} {pos : Pos}
end
end L2
namespace L2
open PySem PySem.Spec PyProof.Rows
section
variable {K : aa} {H : Hp} {B : Addr->Prop} {m : Addr} {xs : List V} {o : Obj}
end
section
variable {X : Cx} {H0 : Hp} {B0 : Addr->Prop} {fr : Bool} {RX : XR} {st : Stmt}
end
end L2
namespace L2
open PySem PySem.Spec PyProof.Rows
section
variable {K : aa} {H : Hp} {B : Addr->Prop} {m : Addr} {xs : List V}
end
section
variable {K : aa} {H0 H H' : Hp} {B0 : Addr->Prop} {σ : St} {δ : SS} {R : Nat->List Addr}
end
section
variable {X : Cx} {H0 : Hp} {B0 : Addr->Prop} {fr : Bool} {RX : XR} {st1 st2 : Stmt} {sts : List Stmt} {f : DE} {z : Int}
end
end L2
namespace L2
open PySem PySem.Spec PyProof.Rows
section
variable {P : Program} {w : World} {K : aa} {mg : Str->Option Value} {base : Heap}
end
section
variable {X : Cx} {e : Expr} {pos ap cp p2 : Pos} {x : Str} {px : Pos} {f : DE} {z : Int} {ke : Expr}
end
end L2
namespace L2
open PySem PySem.Spec PyProof.Rows
section
variable {X : Cx}
variable {e : Expr} {f : DE} {p pos : Pos}
end
end L2
namespace L2
open PySem PySem.Spec PyProof.Rows
section
variable {X : Cx} {H0 : Hp} {B0 : Addr->Prop} {fr : Bool} {RX : XR} {e : Expr} {pos ap cp ap2 cp2 : Pos} {x y : Str} {px py : Pos}
end
end L2
namespace L2
open PySem PySem.Spec PyProof.Rows
section
variable {prog : Program} {w : World} {A : Around} {E : Value->Shared->Prop} {s : Shared} {it t : Addr} {i : Nat} {its : Array Value} {Q : Fin->Shared->Prop} {o ol : Obj} {n : Nat} {x : Value}
end
section
variable {prog : Program} {w : World} {A : Around} {E : Value->Shared->Prop} {s : Shared} {z TI TO i1 i2 : Addr} {a b : Value}
end
section
variable {prog : Program} {w : World} {A : Around} {E : Value->Shared->Prop} {s : Shared} {z TI TO i1 i2 : Addr} {a b : Value}
end
end L2
namespace L2
open PySem PySem.Spec PyProof.Rows
noncomputable def SIt (h : Heap) (tp : Bool) (it a : Addr) (i : Nat) : Prop:=if tp=true then h.IsTupleIter it a i else h.IsListIter it a i
section
variable {X : Cx} {pins : List (Addr × Obj)} {σ : St} {H : Hp} {s : Shared} {a : Addr} {xs ys : List V} {tp : Bool}
end
structure ZipAt (h : Heap) (tp : Bool) (a b z TI TO i1 i2 : Addr) (i : Nat) : Prop where
 zip : IsZip h z TI TO .none
 its : IsPair h TI (.ref i1) (.ref i2)
 out : ∃ u v,IsPair h TO u v
 one : SIt h tp i1 a i
 two : SIt h false i2 b i
end L2
namespace L2
open PySem PySem.Spec PyProof.Rows
section
variable {ob : Addr->Obj} {L : Addr->Bool} {H : Hp} {a : Addr}
end
section
variable {K : aa} {ob : Addr->Obj} {L : Addr->Bool} {H0 H : Hp} {B B0 : Addr->Prop} {σ : St} {δ : SS} {R : Nat->List Addr}
end
section
variable {K : aa} {ob : Addr->Obj} {L : Addr->Bool} {H : Hp}
end
section
variable {X : Cx} {H0 : Hp} {B0 : Addr->Prop} {fr : Bool} {RX : XR} {st : Stmt}
end
end L2
namespace L2
open PySem PySem.Spec PyProof.Rows
section
variable {X : Cx}
variable {a b : Expr} {f g : DE} {pos : Pos}
end
end L2
namespace PySem
section
variable {prog : Program} {w : World} {A : Around} {E : Value->Shared->Prop} {s : Shared}
set_option maxHeartbeats 3200000 in
open PyProof.Rows in
end
end PySem
namespace L2
open PySem PySem.Spec PyProof.Rows
section
variable {X : Cx} {e : Expr} {te : TE} {p p' pos pos' : Pos}
variable {f : DE}
end
end L2
namespace L2
open PySem PySem.Spec PyProof.Rows
section
variable {X : Cx} {ka va kb vb : Expr} {pos : Pos} {fa fb fc fd : DE}
end
end L2
namespace L2
open PySem PySem.Spec PyProof.Rows
section
variable {X : Cx} {N' : List Str} {sc : Scope} {iter elt : Expr} {ifs : List Expr} {n : Nat} {x x' : Str} {px px' tp pos : Pos} {x1 : Nat} {fi : DS->Option (List D)} {fc : DS->Option Bool} {fe : DE}
end
end L2
namespace L2
open PySem PySem.Spec PyProof.Rows
section
variable {P : Program} {w : World} {K : aa} {mg : Str->Option Value} {base : Heap}
end
section
variable {X : Cx} {k : Nat} {sp : Sp} {cl : Nat->Value} {RX : XR} {x : Str} {p pos pos2 : Pos} {e : Expr} {es : List Expr} {t : TA}
variable {H0 : Hp} {B0 : Addr->Prop} {fr : Bool} {F : DS->Option XO}
end
end L2
namespace L2
open PySem PySem.Spec PyProof.Rows
section
variable {K : aa} {H : Hp} {B : Addr->Prop} {m : Addr} {c : Int} {ys : List V}
end
section
variable {K : aa} {H0 H H' : Hp} {B0 : Addr->Prop} {σ : St} {δ : SS} {R : Nat->List Addr}
end
section
variable {X : Cx} {H0 : Hp} {B0 : Addr->Prop} {fr : Bool} {RX : XR} {st1 : Stmt} {sts : List Stmt} {f : DE} {x : Str} {px p2 ap cp pos : Pos} {ke e : Expr}
end
end L2
namespace L2
open PySem PySem.Spec PyProof.Rows
section
variable {X : Cx} {a b c e o : Expr} {f g h : DE} {p pos apos cpos p2 : Pos} {tg : Expr}
end
end L2
namespace L2
open PySem PySem.Spec PyProof.Rows
noncomputable instance {i j : Int} : Decidable (CDivN i j):=by unfold CDivN; infer_instance
section
variable {X : Cx} {a b e : Expr} {f g : DE} {p pos : Pos}
end
end L2
namespace L2
open PySem
theorem y3n {np nl : Nat} {g : SS->Option Out} {ds : List D} {d : D} (hl : ds.length=np) (e : g (ds.map (fun d=>some (.sh d)) ++ aj nl none)=some (.rt d)) : z2z np nl g ds=some d:=by
 unfold z2z
 rw [if_pos hl,e]
theorem z2T {n : Nat} (h : n≤1000000) : n≤sizeLine:=by rw [PySem.sizeLine_eq]; omega
noncomputable def bD (b : Bool) : D:=.bl b
noncomputable def z3A (r : List Bool) : D:=.lst (r.map bD)
noncomputable def z0B (T : List (List Bool)) : D:=.lst (T.map z3A)
theorem z8Q {ds : List D} {k : Nat} {d : D} (h : ds[k]? = some d) : ixD (.lst ds) (.int (k : Int))=some d:=z8z h
theorem z6b : ∀ bs : List Bool,z5B (bs.map bD)=some bs
 | []=>rfl
 | b :: bs=>by
  show (z5B (bs.map bD)).map (b :: ·)=_
  rw [z6b bs]
  rfl
theorem z1y : ∀ r : List Bool,z2l (r.map bD)=true
 | []=>rfl
 | b :: r=>by
  show (true && z2l (r.map bD))=true
  rw [z1y r]
  rfl
end L2
namespace L2
open PySem
theorem row_ix {r : List Bool} {k : Nat} (h : k < r.length) : ixD (z3A r) (.int (k : Int))=some (.bl r[k]):=z8Q (by rw [aN,ae h]; rfl)
theorem tab_ix {T : List (List Bool)} {k : Nat} (h : k < T.length) : ixD (z0B T) (.int (k : Int))=some (z3A T[k]):=z8Q (by rw [aN,ae h]; rfl)
theorem y0M {n k : Nat} (h : k < n) : ixN n (k : Int)=some k:=by
 unfold ixN
 rw [if_pos (by omega),if_pos (by omega)]
 simp
noncomputable def Sq (n : Nat) (T : List (List Bool)) : Prop:=T.length=n∧∀ r∈T,r.length=n
theorem Sq.row {n : Nat} {T : List (List Bool)} (h : Sq n T) {k : Nat} (hk : k < T.length) : T[k].length=n:=h.2 _ (bh hk)
theorem Sq.set {n : Nat} {T : List (List Bool)} (h : Sq n T) {a b : Nat} {v : Bool} (ha : a < T.length) : Sq n (T.set a (T[a].set b v)):=by
 refine ⟨by simp [h.1],fun r hr=>?_⟩
 rcases List.mem_or_eq_of_mem_set hr with z | z
 ·exact h.2 r z
 ·subst z
  rw [cM]
  exact h.row ha
end L2
namespace L2
open PySem
noncomputable def hol {α : Type} (x : Option α) (Q : α->Prop) : Prop:=∃ a,x=some a∧Q a
section
variable {α β : Type} {Q : α->Prop} {R : β->Prop}
theorem z0e {a : α} : hol (some a) Q=Q a:=propext ⟨fun ⟨_,e,q⟩=>by cases e; exact q,fun q=>⟨a,rfl,q⟩⟩
theorem hol_is {x : Option α} {a : α} : hol x (fun b=>b=a)↔x=some a:=⟨fun ⟨_,e,q⟩=>q ▸ e,fun e=>⟨a,e,rfl⟩⟩
end
noncomputable def asB : D->Option Bool
 | .bl b=>some b
 | _=>none
section
variable {Q : D->Prop} {QB : Bool->Prop} {QL : List D->Prop} {QO : Out->Prop} {δ : DS} {s : SS} {f g h : DE} {F : D->D->Option D}
theorem ho_var0 {x : Option D} {r : DS} : z0d 0 (x :: r)=x:=by cases x <;> rfl
noncomputable def owA (i : Nat) (s : SS) : Option D:=match s[i]? with
 | some (some (.ow d))=>some d
 | _=>none
theorem z0D {np nl : Nat} {b : SS->Option Out} {ds : List D} {d : D} (hl : ds.length=np) (h : hol (b (ds.map (fun d=>some (.sh d)) ++ aj nl none)) fun o=>o = .rt d) : z2z np nl b ds=some d:=y3n hl (hol_is.mp h)
theorem z8v {np nl : Nat} {b : SS->Option Out} {ds : List D} (hl : ds.length=np) (h : hol (b (ds.map (fun d=>some (.sh d)) ++ aj nl none)) fun o=>∃ d,o = .rt d∧Q d) : hol (z2z np nl b ds) Q:=by
 obtain ⟨o,e,d,rfl,q⟩:=h
 exact ⟨d,y3n hl e,q⟩
theorem y4o {i : Nat} {b : SS->Option Out} {ds : List D} {s : SS} (I : Nat->SS->Prop) (h0 : I 0 s) (hs : ∀ n (h : n < ds.length) δ,I n δ->hol (b (δ.set i (some (.sh ds[n])))) fun o=>match o with | .nx δ'=>I (n + 1) δ' | .ct δ'=>I (n + 1) δ' | .bk δ'=>QO (.nx δ') | .rt d=>QO (.rt d) | .ex c δ'=>QO (.ex c δ')) (he : ∀ δ,I ds.length δ->QO (.nx δ)) : hol (z5z i b ds s) QO:=by
 induction ds generalizing s I with
 | nil=>exact ⟨_,rfl,he _ h0⟩
 | cons x r ih=>
  obtain ⟨o,e,q⟩:=hs 0 (by simp) s h0
  have e : b (s.set i (some (.sh x)))=some o:=e
  have step : ∀ s1,I 1 s1->hol (z5z i b r s1) QO:=fun s1 h1=>ih (fun n=>I (n + 1)) h1 (fun n hn δ hI=>by
   have:=hs (n + 1) (by simpa using hn) δ hI
   simpa using this) fun δ hI=>he δ (by simpa using hI)
  unfold z5z
  rw [e]
  cases o with
  | nx s1=>exact step s1 q
  | ct s1=>exact step s1 q
  | bk s1=>exact ⟨_,rfl,q⟩
  | rt d=>exact ⟨_,rfl,q⟩
  | ex c s1=>exact ⟨_,rfl,q⟩
theorem z5j {i : Nat} {b : SS->Option Out} {lo : Int} {m : Nat} {s : SS} (I : Nat->SS->Prop) (h0 : I 0 s) (hs : ∀ n,n < m->∀ δ,I n δ->hol (b (δ.set i (some (.sh (.int (lo + (n : Int))))))) fun o=>match o with | .nx δ'=>I (n + 1) δ' | .ct δ'=>I (n + 1) δ' | .bk δ'=>QO (.nx δ') | .rt d=>QO (.rt d) | .ex c δ'=>QO (.ex c δ')) (he : ∀ δ,I m δ->QO (.nx δ)) : hol (z5z i b (z4A lo m) s) QO:=by
 refine y4o I h0 (fun n hn δ hI=>?_) fun δ hI=>he δ (by simpa [z4A] using hI)
 have hn' : n < m:=by simpa [z4A] using hn
 have:=hs n hn' δ hI
 simpa [z4A] using this
theorem z2N {α : Type} {enc : α->D} {i : Nat} {b : SS->Option Out} {xs : List α} {s : SS} (I : List α->SS->Prop) (h0 : I [] s) (hs : ∀ pre x post,xs=pre ++ x :: post->∀ δ,I pre δ->hol (b (δ.set i (some (.sh (enc x))))) fun o=>match o with | .nx δ'=>I (pre ++ [x]) δ' | .ct δ'=>I (pre ++ [x]) δ' | .bk δ'=>QO (.nx δ') | .rt d=>QO (.rt d) | .ex c δ'=>QO (.ex c δ')) (he : ∀ δ,I xs δ->QO (.nx δ)) : hol (z5z i b (xs.map enc) s) QO:=by
 refine y4o (fun n δ=>I (xs.take n) δ) (by simpa using h0) (fun n hn δ hI=>?_) fun δ hI=>he δ (by simpa using hI)
 have hn' : n < xs.length:=by simpa using hn
 have e : xs=xs.take n ++ xs[n] :: xs.drop (n + 1):=by
  rw [← bj hn',d8]
 have:=hs (xs.take n) xs[n] _ e δ hI
 rw [← List.take_succ_eq_append_getElem hn'] at this
 rw [List.getElem_map]
 exact this
end
end L2
namespace L2
open PySem
noncomputable def o2 (F : D->D->Option D) : Option D->Option D->Option D
 | some x,some y=>F x y
 | _,_=>none
noncomputable def andO : Option D->Option D->Option D
 | some (.bl true),y=>y
 | some (.bl false),_=>some (.bl false)
 | _,_=>none
noncomputable def orO : Option D->Option D->Option D
 | some (.bl true),_=>some (.bl true)
 | some (.bl false),y=>y
 | _,_=>none
noncomputable def andT : Option Bool->Option Bool->Option Bool
 | some true,y=>y
 | some false,_=>some false
 | _,_=>none
noncomputable def orT : Option Bool->Option Bool->Option Bool
 | some true,_=>some true
 | some false,y=>y
 | _,_=>none
noncomputable def iteO {α : Type} : Option Bool->Option α->Option α->Option α
 | some true,x,_=>x
 | some false,_,y=>y
 | _,_,_=>none
noncomputable def consA : Option D->Option (List D)->Option (List D)
 | some x,some xs=>some (x :: xs)
 | _,_=>none
noncomputable def y7M : Option D->Option D
 | some d=>if d.imm=true then some d else none
 | none=>none
noncomputable def z6L : Option (List D)->Option (List D)
 | some ds=>if z2l ds=true then some ds else none
 | none=>none
noncomputable def y2z (x : Option Out) (b : SS->Option Out) : Option Out:=match x with
 | some (.nx s)=>b s
 | o=>o
noncomputable def rng1 : Option D->Option (List D)
 | some (.int j)=>if -(2 ^ 62)≤j∧j < 2 ^ 62 then some (z4A 0 j.toNat) else none
 | _=>none
noncomputable def rng2 : Option D->Option D->Option (List D)
 | some (.int i),some (.int j)=>if -(2 ^ 62)≤i∧i < 2 ^ 62∧-(2 ^ 62)≤j∧j < 2 ^ 62 then some (z4A i (j - i).toNat) else none
 | _,_=>none
noncomputable def cut3 (x : Option D) (lo hi : Option (Option Int)) : Option (List D):=match x,lo,hi with
 | some (.lst ds),some l,some h=>some (y8d ds l h)
 | some (.scr ns),some l,some h=>some (y8d (ns.map .int) l h)
 | _,_,_=>none
noncomputable def partO : Option D->Option (Option Int)
 | some (.int i)=>some (some i)
 | _=>none
noncomputable def setO (mk : D->SD) (i : Nat) (x : Option D) (s : SS) : Option Out:=match x with
 | some d=>some (.nx (s.set i (some (mk d))))
 | none=>none
noncomputable def rtO : Option D->Option Out
 | some d=>some (.rt d)
 | none=>none
noncomputable def forX (i : Nat) (ds : Option (List D)) (b : SS->Option Out) (s : SS) : Option Out:=match ds with
 | some ds=>z5z i b ds s
 | none=>none
noncomputable def z6P (i : Nat) (x : Option D) (s : SS) : Option Out:=match x with
 | some d=>some (.nx ((z0y i s).set i (some (.ow d))))
 | none=>none
noncomputable def z2m (fc : DS->Option Bool) (fe : DE) (δ : DS) : D->Option (Option D):=fun x=>(fc (δ ++ [some x])).bind fun k=>if k=true then (fe (δ ++ [some x])).map some else some none
noncomputable def z1Q (xs : Option (List D)) (h : D->Option (Option D)) : Option (List D):=match xs with
 | some xs=>if xs.length≤sizeLine then z1U h xs else none
 | none=>none
section
variable {f g h : DE} {δ : DS} {s : SS} {F : D->D->Option D} {c e : DS->Option Bool} {a b : SS->Option Out} {i j : Nat}
theorem ev_var0 {x : Option D} {r : DS} : z0d 0 (x :: r)=x:=ho_var0
theorem ev_varS {x : Option D} {r : DS} : z0d (i + 1) (x :: r)=z0d i r:=(rfl)
theorem ev_C {d : D} : dC d δ=some d:=(rfl)
theorem ev_d2 : d2 F f g δ=o2 F (f δ) (g δ):=by
 unfold d2 o2
 cases f δ <;> cases g δ <;> rfl
theorem ev_d1 {G : D->Option D} : d1 G f δ=(f δ).bind G:=(rfl)
theorem ev_test : z1v f δ=(f δ).bind asB:=by
 unfold z1v
 cases f δ with
 | none=>rfl
 | some d=>cases d <;> rfl
theorem y5T : z1t f δ=(f δ).bind z6m:=(rfl)
theorem ev_andT : y5G c e δ=andT (c δ) (e δ):=by
 unfold y5G
 rcases c δ with _ | _ | _ <;> rfl
theorem ev_orT : dOrT c e δ=orT (c δ) (e δ):=by
 unfold dOrT
 rcases c δ with _ | _ | _ <;> rfl
theorem ev_notT : z6C c δ=(c δ).map (!·):=(rfl)
theorem ev_and : y8C f g δ=andO (f δ) (g δ):=by
 unfold y8C andO
 rcases f δ with _ | (_ | (_ | _) | _ | _ | _ | _ | _ | _) <;> rfl
theorem ev_or : dOr f g δ=orO (f δ) (g δ):=by
 unfold dOr orO
 rcases f δ with _ | (_ | (_ | _) | _ | _ | _ | _ | _ | _) <;> rfl
theorem y7e : z0q [] δ=some []:=(rfl)
theorem y6Y {r : List DE} : z0q (f :: r) δ=consA (f δ) (z0q r δ):=by
 show ((f δ).bind fun x=>(z0q r δ).bind fun xs=>some (x :: xs))=_
 cases f δ <;> cases z0q r δ <;> rfl
theorem ev_call {M : List D->Option D} {fl : List DE} : z0j M fl δ=(z0q fl δ).bind M:=(rfl)
theorem y7S {M : List D->Option (List D)} {fl : List DE} : z2G M fl δ=(z0q fl δ).bind M:=(rfl)
theorem ev_mkL {f : DS->Option (List D)} : mkL f δ=(f δ).map .lst:=(rfl)
theorem ev_mkT {f : DS->Option (List D)} : mkT f δ=(f δ).map .tup:=(rfl)
theorem y4N {f : DS->Option (List D)} : z0v f δ=(z6L (f δ)).map .lst:=by
 unfold z0v z6L
 cases f δ with
 | none=>rfl
 | some ds=>
  show (if z2l ds=true then _ else _)=Option.map _ (if z2l ds=true then _ else _)
  split <;> rfl
theorem ev_is {T : String} : dIs T f δ=(f δ).map fun d=>.bl (isF T d):=(rfl)
theorem ev_seq : z4u f δ=(f δ).bind y2X:=(rfl)
theorem ev_rng1 : z4s f δ=rng1 (f δ):=(rfl)
theorem ev_rng2 : y7Y f g δ=rng2 (f δ) (g δ):=(rfl)
theorem ev_comp {fi : DS->Option (List D)} : z0X fi c f δ=z1Q (fi δ) (z2m c f δ):=by
 unfold z0X z1Q
 cases fi δ <;> rfl
theorem ev_part : y6z f δ=partO (f δ):=(rfl)
theorem y4Q : y0T δ=some none:=(rfl)
theorem ev_cut {fl fh : DS->Option (Option Int)} : dCut f fl fh δ=cut3 (f δ) (fl δ) (fh δ):=by
 unfold dCut cut3
 rcases f δ with _ | (_ | _ | _ | _ | _ | _ | _ | _) <;> first | rfl | (cases fl δ <;> cases fh δ <;> rfl)
theorem ev_seqO : z1i a b s=y2z (a s) b:=by
 unfold z1i y2z
 rcases a s with _ | (_ | _ | _ | _) <;> rfl
theorem ev_skip : z3C s=some (.nx s):=(rfl)
theorem ev_asgS : y7A i f s=setO .sh i (f (shV s)) s:=by
 unfold y7A setO
 cases f (shV s) <;> rfl
theorem ev_asgI : y3d i f s=setO .sh i (y7M (f (z0u s))) s:=by
 unfold y3d setO y7M
 cases f (z0u s) with
 | none=>rfl
 | some d=>
  show (if d.imm=true then _ else _)=(match (if d.imm=true then some d else none) with | some d=>some (Out.nx (s.set i (some (SD.sh d)))) | none=>none)
  split <;> rfl
theorem ev_asgN : z4p i f s=setO .ow i (f (z0u s)) s:=by
 unfold z4p setO
 cases f (z0u s) <;> rfl
theorem ev_retI : z5H f s=rtO (y7M (f (z0u s))):=by
 unfold z5H rtO y7M
 cases f (z0u s) with
 | none=>rfl
 | some d=>
  show (if d.imm=true then _ else _)=(match (if d.imm=true then some d else none) with | some d=>some (Out.rt d) | none=>none)
  split <;> rfl
theorem ev_retN : z8l f s=rtO (f (z0u s)):=by
 unfold z8l rtO
 cases f (z0u s) <;> rfl
theorem ev_retS : retS f s=rtO (f (shV s)):=by
 unfold retS rtO
 cases f (shV s) <;> rfl
theorem ev_retO : y2d i s=rtO (owA i s):=by
 unfold y2d rtO owA
 rcases s[i]? with _ | _ | ⟨x | x | ⟨r,x⟩⟩ <;> rfl
theorem ev_ifO : ifO c a b s=iteO (c (z0u s)) (a s) (b s):=by
 unfold ifO
 rcases c (z0u s) with _ | _ | _ <;> rfl
theorem ev_forO {fi : DS->Option (List D)} : z8C i fi b s=forX i (fi (shV s)) b s:=by
 unfold z8C forX
 cases fi (shV s) <;> rfl
theorem ev_frz : frzO i b s=b (y7d i s):=(rfl)
theorem eo_2 {x y : D} : o2 F (some x) (some y)=F x y:=(rfl)
theorem eo_and {x y : Bool} : andO (some (.bl x)) (some (.bl y))=some (.bl (x && y)):=by cases x <;> rfl
theorem eo_or {x y : Bool} : orO (some (.bl x)) (some (.bl y))=some (.bl (x || y)):=by cases x <;> rfl
theorem eo_andT {x y : Bool} : andT (some x) (some y)=some (x && y):=by cases x <;> rfl
theorem eo_orT {x y : Bool} : orT (some x) (some y)=some (x || y):=by cases x <;> rfl
theorem eo_itet {α : Type} {x y : Option α} : iteO (some true) x y=x:=(rfl)
theorem eo_itef {α : Type} {x y : Option α} : iteO (some false) x y=y:=(rfl)
theorem eo_cons {x : D} {xs : List D} : consA (some x) (some xs)=some (x :: xs):=(rfl)
theorem eo_nx : y2z (some (.nx s)) b=b s:=(rfl)
theorem eo_rt {d : D} : y2z (some (.rt d)) b=some (.rt d):=(rfl)
theorem eo_set {mk : D->SD} {d : D} : setO mk i (some d) s=some (.nx (s.set i (some (mk d)))):=(rfl)
theorem eo_rtO {d : D} : rtO (some d)=some (.rt d):=(rfl)
theorem eo_for {ds : List D} : forX i (some ds) b s=z5z i b ds s:=(rfl)
theorem eo_immI {n : Int} : y7M (some (.int n))=some (.int n):=(rfl)
theorem eo_immB {n : Bool} : y7M (some (.bl n))=some (.bl n):=(rfl)
theorem z3i {ds : List D} (h : z2l ds=true) : z6L (some ds)=some ds:=if_pos h
theorem eo_part {n : Int} : partO (some (.int n))=some (some n):=(rfl)
theorem y0c {n : Int} (h : -(2 ^ 62)≤n∧n < 2 ^ 62) : rng1 (some (.int n))=some (z4A 0 n.toNat):=if_pos h
theorem eo_rng2 {m n : Int} (h : -(2 ^ 62)≤m∧m < 2 ^ 62∧-(2 ^ 62)≤n∧n < 2 ^ 62) : rng2 (some (.int m)) (some (.int n))=some (z4A m (n - m).toNat):=if_pos h
theorem z4q {xs : List D} {k : D->Option (Option D)} (h : xs.length≤1000000) : z1Q (some xs) k=z1U k xs:=if_pos (z2T h)
section
variable {m n : Int} {p q : Bool} {ds es : List D} {x y : Str} {ns : List Int}
theorem ea_add : y2S (.int m) (.int n)=some (.int (m + n)):=(rfl)
theorem ea_sub : subI (.int m) (.int n)=some (.int (m - n)):=(rfl)
theorem ea_mul (h : CMul m n) : mulI (.int m) (.int n)=some (.int (m * n)):=if_pos h
theorem y1V (h : CDiv m n) : y5K (.int m) (.int n)=some (.int (m / n)):=if_pos h
theorem z6y (h : 0 < n) : z9w (.int m) (.int n)=some (.int (m % n)):=if_pos h
theorem ea_lt : ltI (.int m) (.int n)=some (.bl (decide (m < n))):=(rfl)
theorem ea_le : leI (.int m) (.int n)=some (.bl (decide (m≤n))):=(rfl)
theorem ea_gt : gtI (.int m) (.int n)=some (.bl (decide (n < m))):=(rfl)
theorem ea_eqI : eqD (.int m) (.int n)=some (.bl (decide (m=n))):=(rfl)
theorem ea_neI : neD (.int m) (.int n)=some (.bl (!decide (m=n))):=(rfl)
theorem ea_neg : uNeg (.int m)=some (.int (-m)):=(rfl)
theorem ea_not : uNot (.bl p)=some (.bl (!p)):=(rfl)
theorem ea_truB : z6m (.bl p)=some p:=(rfl)
theorem ea_seqL : y2X (.lst ds)=some ds:=(rfl)
theorem ea_lenR : z3z [.scr ns]=some (.int (ns.length : Int)):=(rfl)
theorem ea_ixL : ixD (.lst ds) (.int m)=atI ds m:=(rfl)
theorem ea_ixR : ixD (.scr ns) (.int m)=(atI ns m).map .int:=(rfl)
theorem ea_isBI : isF "bool" (.int m)=false:=(rfl)
theorem ea_isII : isF "int" (.int m)=true:=(rfl)
theorem ea_asB : asB (.bl p)=some p:=(rfl)
end
theorem eb_bs {α β : Type} {a : α} {k : α->Option β} : (some a).bind k=k a:=(rfl)
theorem eb_ms {α β : Type} {a : α} {k : α->β} : (some a).map k=some (k a):=(rfl)
theorem eb_mn {α β : Type} {k : α->β} : (none : Option α).map k=none:=(rfl)
theorem eb_s0 {α : Type} {x y : α} {r : List α} : (x :: r).set 0 y=y :: r:=(rfl)
theorem eb_sS {α : Type} {n : Nat} {x y : α} {r : List α} : (x :: r).set (n + 1) y=x :: r.set n y:=(rfl)
theorem eb_mc {α β : Type} {x : α} {r : List α} {k : α->β} : (x :: r).map k=k x :: r.map k:=(rfl)
theorem eb_mnil {α β : Type} {k : α->β} : ([] : List α).map k=[]:=(rfl)
theorem eb_rS {α : Type} {n : Nat} {x : α} : aj (n + 1) x=x :: aj n x:=(rfl)
theorem eb_r0 {α : Type} {x : α} : aj 0 x=[]:=(rfl)
theorem eb_ca {α : Type} {x : α} {r t : List α} : (x :: r) ++ t=x :: (r ++ t):=(rfl)
theorem eb_na {α : Type} {t : List α} : [] ++ t=t:=(rfl)
theorem es_all0 : z0u []=[]:=(rfl)
theorem es_allS {x : Option SD} {r : SS} : z0u (x :: r)=x.map SD.val :: z0u r:=(rfl)
theorem es_sh0 : shV []=[]:=(rfl)
theorem es_shS {x : Option SD} {r : SS} : shV (x :: r)=shO x :: shV r:=(rfl)
theorem es_shO {d : D} : shO (some (.sh d))=some d:=(rfl)
theorem y7F : z0y i []=[]:=(rfl)
theorem y6M {x : Option SD} {r : SS} : z0y i (x :: r)=y0R i x :: z0y i r:=(rfl)
theorem y2U {d : D} : y0R i (some (.sh d))=some (.sh d):=(rfl)
theorem y5H {d : D} : y0R i (some (.ow d))=some (.ow d):=(rfl)
theorem y7z : y0R i none=none:=(rfl)
theorem es_ow0 {d : D} {r : SS} : owA 0 (some (.ow d) :: r)=some d:=(rfl)
theorem es_owS {x : Option SD} {r : SS} : owA (i + 1) (x :: r)=owA i r:=(rfl)
end
end L2
namespace L2
open PySem
noncomputable def y6r : Option (List D)->Option (List D):=z6L
noncomputable def st0V (o k v : Option D) : Option D:=match o,k,v with
 | some (.lst ds),some (.int k),some d=>(ixN ds.length k).map fun j=>.lst (ds.set j d)
 | _,_,_=>none
noncomputable def st1V (o k j v : Option D) : Option D:=match o,k,j,v with
 | some (.lst ds),some (.int k),some (.int j),some d=>(ixN ds.length k).bind fun k'=>(match ds[k']? with
  | some (.lst es)=>if z2l es=true then (ixN es.length j).map fun j'=>.lst (ds.set k' (.lst (es.set j' d))) else none
  | _=>none)
 | _,_,_,_=>none
noncomputable def m0V (M : List D->List D->Option (List D)) (o : Option D) (args : Option (List D)) : Option D:=match o,args with
 | some (.lst ds),some args=>(M ds args).map .lst
 | _,_=>none
section
variable {f g fk fj fv : DE} {s : SS} {i : Nat} {M : List D->List D->Option (List D)} {fl : List DE}
theorem eo_put {d : D} : z6P i (some d) s=some (.nx ((z0y i s).set i (some (.ow d)))):=(rfl)
theorem y1M {ds : List D} (h : z2l ds=true) : y6r (some ds)=some ds:=if_pos h
noncomputable def kI : D->Option Int
 | .int k=>some k
 | _=>none
noncomputable def kL : D->Option (List D)
 | .lst ds=>some ds
 | _=>none
noncomputable def kW : Option (Option SD)->Option D
 | some (some (.ow d))=>some d
 | _=>none
theorem y8i : owA i s=kW s[i]?:=by
 unfold owA kW
 generalize s[i]? = x
 rcases x with _ | _ | ⟨x | x | ⟨r,x⟩⟩ <;> rfl
theorem mt2 {β : Type} {k : D} {x : Option (Option SD)} {F : Int->List D->Option β} : (match k,x with | .int k,some (some (.ow (.lst ds)))=>F k ds | _,_=>none)=(kI k).bind fun k=>((kW x).bind kL).bind fun ds=>F k ds:=by
 cases k with
 | int k=>rcases x with _ | _ | ⟨x | x | ⟨r,x⟩⟩ <;> first | rfl | (cases x <;> rfl)
 | _=>rfl
theorem mt3 {β : Type} {k j : D} {x : Option (Option SD)} {F : Int->Int->List D->Option β} : (match k,j,x with | .int k,.int j,some (some (.ow (.lst ds)))=>F k j ds | _,_,_=>none)=(kI k).bind fun k=>(kI j).bind fun j=>((kW x).bind kL).bind fun ds=>F k j ds:=by
 cases k with
 | int k=>
  cases j with
  | int j=>rcases x with _ | _ | ⟨x | x | ⟨r,x⟩⟩ <;> first | rfl | (cases x <;> rfl)
  | _=>rfl
 | _=>rfl
theorem st0V_k {o k v : Option D} : st0V o k v=(o.bind kL).bind fun ds=>(k.bind kI).bind fun k=>v.bind fun d=>(ixN ds.length k).map fun j=>.lst (ds.set j d):=by
 rcases o with _ | o
 ·rfl
 ·cases o with
  | lst ds=>
   rcases k with _ | k
   ·rfl
   ·cases k with
    | int k=>cases v <;> rfl
    | _=>rfl
  | _=>rfl
theorem y8b {o k j v : Option D} : st1V o k j v=(o.bind kL).bind fun ds=>(k.bind kI).bind fun k=>(j.bind kI).bind fun j=>v.bind fun d=>(ixN ds.length k).bind fun k'=>(match ds[k']? with
  | some (.lst es)=>if z2l es=true then (ixN es.length j).map fun j'=>.lst (ds.set k' (.lst (es.set j' d))) else none
  | _=>none):=by
 rcases o with _ | o
 ·rfl
 ·cases o with
  | lst ds=>
   rcases k with _ | k
   ·rfl
   ·cases k with
    | int k=>
     rcases j with _ | j
     ·rfl
     ·cases j with
      | int j=>cases v <;> rfl
      | _=>rfl
    | _=>rfl
  | _=>rfl
theorem y5w {α : Type} {x : Option α} {F : α->Option D} : z6P i (x.bind F) s=x.bind fun a=>z6P i (F a) s:=by cases x <;> rfl
theorem z2I {α β : Type} {x : Option α} : (x.bind fun _=>(none : Option β))=none:=by cases x <;> rfl
theorem ev_st0 : st0 i fk fv s=z6P i (st0V (owA i s) (fk (z0u s)) (y7M (fv (z0u s)))) s:=by
 have e : st0 i fk fv s=(fv (z0u s)).bind fun d=>if d.imm=true then (fk (z0u s)).bind fun dk=>(kI dk).bind fun k=>((kW s[i]?).bind kL).bind fun ds=>(ixN ds.length k).map fun j=>.nx ((z0y i s).set i (some (.ow (.lst (ds.set j d))))) else none:=by
  refine congrArg (Option.bind (fv (z0u s))) (funext fun d=>?_)
  refine congrArg (fun z=>if d.imm=true then z else none) ?_
  refine congrArg (Option.bind (fk (z0u s))) (funext fun dk=>?_)
  exact mt2 (F:=fun k ds=>(ixN ds.length k).map fun j=>Out.nx ((z0y i s).set i (some (.ow (.lst (ds.set j d))))))
 rw [e,st0V_k,y8i]
 simp only [y5w]
 generalize (kW s[i]?).bind kL=x
 rcases fv (z0u s) with _ | d
 ·show none=x.bind fun ds=>((fk (z0u s)).bind kI).bind fun k=>(none : Option Out)
  simp only [z2I]
 ·show (if d.imm=true then (fk (z0u s)).bind fun dk=>_ else none)=x.bind fun ds=>((fk (z0u s)).bind kI).bind fun k=>(if d.imm=true then some d else none).bind fun d=>_
  split
  ·rcases fk (z0u s) with _ | k
   ·simp only [bJ,z2I]
   ·simp only [ax]
    cases kI k with
    | none=>simp only [bJ,z2I]
    | some k=>
     simp only [ax]
     cases x with
     | none=>rfl
     | some ds=>
      simp only [ax]
      cases ixN ds.length k <;> rfl
  ·simp only [bJ,z2I]
theorem m_st1 {k j : Int} {d : D} {ds : List D} : ((ixN ds.length k).bind fun k'=>(match ds[k']? with
   | some (.lst es)=>if z2l es=true then (ixN es.length j).map fun j'=>Out.nx ((z0y i s).set i (some (.ow (.lst (ds.set k' (.lst (es.set j' d))))))) else none
   | _=>none))=z6P i (st1V (some (.lst ds)) (some (.int k)) (some (.int j)) (some d)) s:=by
 show _=z6P i ((ixN ds.length k).bind _) s
 cases ixN ds.length k with
 | none=>rfl
 | some k'=>
  rw [ax,ax]
  cases ds[k']? with
  | none=>rfl
  | some y=>
   cases y with
   | lst es=>
    dsimp only
    split
    ·cases ixN es.length j <;> rfl
    ·rfl
   | _=>rfl
theorem ev_st1 : st1 i fk fj fv s=z6P i (st1V (owA i s) (fk (z0u s)) (fj (z0u s)) (y7M (fv (z0u s)))) s:=by
 have e : st1 i fk fj fv s=(fv (z0u s)).bind fun d=>if d.imm=true then (fk (z0u s)).bind fun dk=>(fj (z0u s)).bind fun dj=>(kI dk).bind fun k=>(kI dj).bind fun j=>((kW s[i]?).bind kL).bind fun ds=>(ixN ds.length k).bind fun k'=>(match ds[k']? with
   | some (.lst es)=>if z2l es=true then (ixN es.length j).map fun j'=>.nx ((z0y i s).set i (some (.ow (.lst (ds.set k' (.lst (es.set j' d))))))) else none
   | _=>none) else none:=by
  refine congrArg (Option.bind (fv (z0u s))) (funext fun d=>?_)
  refine congrArg (fun z=>if d.imm=true then z else none) ?_
  refine congrArg (Option.bind (fk (z0u s))) (funext fun dk=>?_)
  refine congrArg (Option.bind (fj (z0u s))) (funext fun dj=>?_)
  exact mt3 (F:=fun k j ds=>(ixN ds.length k).bind fun k'=>(match ds[k']? with
   | some (.lst es)=>if z2l es=true then (ixN es.length j).map fun j'=>Out.nx ((z0y i s).set i (some (.ow (.lst (ds.set k' (.lst (es.set j' d))))))) else none
   | _=>none))
 rw [e,y8b,y8i]
 simp only [y5w]
 generalize (kW s[i]?).bind kL=x
 rcases fv (z0u s) with _ | d
 ·show none=x.bind fun ds=>((fk (z0u s)).bind kI).bind fun k=>((fj (z0u s)).bind kI).bind fun j=>(none : Option Out)
  simp only [z2I]
 ·show (if d.imm=true then (fk (z0u s)).bind fun dk=>_ else none)=x.bind fun ds=>((fk (z0u s)).bind kI).bind fun k=>((fj (z0u s)).bind kI).bind fun j=>(if d.imm=true then some d else none).bind fun d=>_
  split
  ·rcases fk (z0u s) with _ | k
   ·simp only [bJ,z2I]
   ·simp only [ax]
    rcases fj (z0u s) with _ | j
    ·simp only [bJ,z2I]
    ·simp only [ax]
     cases kI k with
     | none=>simp only [bJ,z2I]
     | some k=>
      cases kI j with
      | none=>simp only [bJ,ax,z2I]
      | some j=>
       simp only [ax]
       cases x with
       | none=>rfl
       | some ds=>
        have:=m_st1 (i:=i) (s:=s) (k:=k) (j:=j) (d:=d) (ds:=ds)
        rw [y8b] at this
        simp only [ax,y5w,kL,kI] at this
        simp only [ax]
        exact this
  ·simp only [bJ,z2I]
theorem ev_m0 : m0 i M fl s=z6P i (m0V M (owA i s) (y6r (z0q fl (z0u s)))) s:=by
 unfold m0 owA
 rcases z0q fl (z0u s) with _ | args
 ·rcases s[i]? with _ | _ | ⟨x | x | ⟨r,x⟩⟩ <;> (first | rfl | (cases x <;> rfl))
 ·show (if z2l args=true then _ else _)=z6P i (m0V M _ (if z2l args=true then some args else none)) s
  split
  ·rcases s[i]? with _ | _ | ⟨x | x | ⟨r,x⟩⟩ <;> (first | rfl | (cases x <;> first | rfl | (rename_i ds; show Option.map _ (M ds args)=z6P i (Option.map _ (M ds args)) s; cases M ds args <;> rfl)))
  ·rcases s[i]? with _ | _ | ⟨x | x | ⟨r,x⟩⟩ <;> (first | rfl | (cases x <;> rfl))
theorem y5Q : y0W i f s=z6P i (m0V z7P (owA i s) (consA (f (z0u s)) (some []))) s:=by
 unfold y0W owA
 rcases f (z0u s) with _ | d
 ·rcases s[i]? with _ | _ | ⟨x | x | ⟨r,x⟩⟩ <;> (first | rfl | (cases x <;> rfl))
 ·rcases s[i]? with _ | _ | ⟨x | x | ⟨r,x⟩⟩ <;> (first | rfl | (cases x <;> first | rfl | (rename_i ds; show Option.map _ (z7P ds [d])=z6P i (Option.map _ (z7P ds [d])) s; cases z7P ds [d] <;> rfl)))
end
theorem es_v1 {d : D} : (SD.sh d).val=d:=(rfl)
theorem es_v2 {d : D} : (SD.ow d).val=d:=(rfl)
theorem y1o {bs : List Bool} : y7J [.lst (bs.map bD)]=some (.bl (bs.all fun b=>b)):=by
 show (z5B (bs.map bD)).map (fun bs=>D.bl (bs.all fun b=>b))=_
 rw [z6b]
 rfl
theorem y8n {bs : List Bool} : anyF [.lst (bs.map bD)]=some (.bl (bs.any fun b=>b)):=by
 show (z5B (bs.map bD)).map (fun bs=>D.bl (bs.any fun b=>b))=_
 rw [z6b]
 rfl
theorem y1L : ∀ ns : List Int,z3h (ns.map D.int)=some ns
 | []=>rfl
 | n :: ns=>by
  show (z3h (ns.map D.int)).map (n :: ·)=_
  rw [y1L ns]
  rfl
theorem y1U {T : List (List Bool)} {a b : Nat} {v : Bool} (ha : a < T.length) (hb : b < T[a].length) : st1V (some (z0B T)) (some (.int (a : Int))) (some (.int (b : Int))) (some (.bl v))=some (z0B (T.set a (T[a].set b v))):=by
 show ((ixN (T.map z3A).length (a : Int)).bind fun k'=>(match (T.map z3A)[k']? with
  | some (.lst es)=>if z2l es=true then (ixN es.length (b : Int)).map fun j'=>D.lst ((T.map z3A).set k' (.lst (es.set j' (.bl v)))) else none
  | _=>none))=_
 rw [y0M (by simpa using ha),ax]
 have e1 : (T.map z3A)[a]? = some (.lst (T[a].map bD)):=by rw [aN,ae ha]; rfl
 rw [e1]
 dsimp only
 rw [if_pos (z1y _),y0M (by simpa using hb),bF]
 unfold z0B
 rw [dR]
 unfold z3A
 rw [dR]
 rfl
theorem z1P {T : List (List Bool)} : z3z [z0B T]=some (.int (T.length : Int)):=by
 show some (D.int ((T.map z3A).length : Nat))=_
 rw [aq]
theorem ix_tab {T : List (List Bool)} {k : Nat} (h : k < T.length) : ixD (z0B T) (.int (k : Int))=some (z3A T[k]):=tab_ix h
theorem ix_row {r : List Bool} {k : Nat} (h : k < r.length) : ixD (z3A r) (.int (k : Int))=some (.bl r[k]):=row_ix h
theorem ins_at {n b : Nat} (h : b≤n) : y2P n (b : Int)=b:=by
 unfold y2P
 rw [if_neg (by omega),ce,Nat.min_eq_left h]
theorem z7p {x : Int} {n : Nat} (h : 0 < n) : ∃ a : Nat,x % (n : Int)=(a : Int)∧a < n:=by
 have h1:=Int.emod_nonneg x (show (n : Int)≠0 by omega)
 have h2:=Int.emod_lt_of_pos x (show (0 : Int) < n by omega)
 exact ⟨(x % (n : Int)).toNat,by omega,by omega⟩
theorem y0S {α : Type} {enc : α->D} {c : DS->Option Bool} {f : DE} {δ : DS} (p : α->Bool) (g : α->D) : ∀ {xs : List α},(∀ x∈xs,c (δ ++ [some (enc x)])=some (p x))->(∀ x∈xs,p x=true->f (δ ++ [some (enc x)])=some (g x))->z1U (z2m c f δ) (xs.map enc)=some ((xs.filter p).map g)
 | [],_,_=>rfl
 | x :: r,hc,hf=>by
  have ih:=y0S (xs:=r) p g (fun y hy=>hc y (ak _ hy)) fun y hy=>hf y (ak _ hy)
  rw [aT]
  unfold z1U
  rw [ih]
  unfold z2m
  rw [hc x ah]
  cases hp : p x with
  | true=>
   show ((if true=true then (f (δ ++ [some (enc x)])).map some else some none).bind _)=_
   rw [if_pos rfl,hf x ah hp,dN hp]
   rfl
  | false=>
   rw [dO (by rw [hp]; exact ao)]
   rfl
theorem z3U {α : Type} {enc : α->D} {f : DE} {δ : DS} (g : α->D) {xs : List α} (hf : ∀ x∈xs,f (δ ++ [some (enc x)])=some (g x)) : z1U (z2m z2Y f δ) (xs.map enc)=some (xs.map g):=by
 rw [y0S (fun _=>true) g (fun _ _=>rfl) fun x hx _=>hf x hx,bY.mpr fun _ _=>rfl]
noncomputable def nD (n : Nat) : D:=.int (n : Int)
theorem z3l {n : Nat} : z4A 0 n=(ag n).map nD:=by
 unfold z4A nD
 refine cQ fun k _=>?_
 rw [cb]
theorem at_nat {α : Type} {xs : List α} {k : Nat} (h : k < xs.length) : atI xs (k : Int)=some xs[k]:=z8z (ae h)
theorem ixN_of {n k : Nat} (h : k < n) : ixN n (k : Int)=some k:=y0M h
end L2
namespace L2
open PySem
theorem y1z : ∀ o : List Int,z2l (o.map D.int)=true
 | []=>rfl
 | n :: o=>by
  show (true && z2l (o.map D.int))=true
  rw [y1z o]
  rfl
theorem z7o : ∀ o : List Int,PyData.canLayAll0 (z4F (o.map D.int))=true
 | []=>rfl
 | n :: o=>by
  show (true && PyData.canLayAll0 (z4F (o.map D.int)))=true
  rw [z7o o]
  rfl
theorem z7Z : ∀ o : List Int,PyData.depthAll (z4F (o.map D.int))=0
 | []=>rfl
 | n :: o=>by
  show max 0 (PyData.depthAll (z4F (o.map D.int)))=0
  rw [z7Z o]
  rfl
theorem z0H {x : Option Out} {b : SS->Option Out} {I : SS->Prop} {Q : Out->Prop} (h : hol x fun o=>∃ s,o = .nx s∧I s) (k : ∀ s,I s->hol (b s) Q) : hol (y2z x b) Q:=by
 obtain ⟨o,rfl,s,rfl,q⟩:=h
 exact k s q
noncomputable def rngI (m : Nat) : List Int:=(ag m).map fun k=>((k : Nat) : Int)
structure Good (m : Nat) (b : Int × List Int) : Prop where
 lo : 1≤b.1
 hi : b.1≤10 ^ 30
 perm : b.2.Perm (rngI m)
end L2
namespace L2
open PySem
noncomputable def at2 (T : List (List Bool)) (i j : Nat) : Bool:=(T.getD i []).getD j false
noncomputable def thD (th : List Nat) : D:=.lst (th.map nD)
theorem y0q {T : List (List Bool)} {i : Nat} (h : i < T.length) : ixD (z0B T) (.int (i : Int))=some (z3A (T.getD i [])):=by
 rw [ix_tab h]
 simp [be,ae h]
theorem y5g {r : List Bool} {j : Nat} (h : j < r.length) : ixD (z3A r) (.int (j : Int))=some (.bl (r.getD j false)):=by
 rw [ix_row h]
 simp [be,ae h]
theorem Sq.len {n : Nat} {T : List (List Bool)} (h : Sq n T) {i : Nat} (hi : i < n) : (T.getD i []).length=n:=by
 have h1 : i < T.length:=by rw [h.1]; exact hi
 have : T.getD i []=T[i]:=by simp [be,ae h1]
 rw [this]
 exact h.row h1
theorem ix2 {n : Nat} {T : List (List Bool)} (h : Sq n T) {i j : Nat} (hi : i < n) (hj : j < n) : o2 ixD (ixD (z0B T) (.int (i : Int))) (some (.int (j : Int)))=some (.bl (at2 T i j)):=by
 rw [y0q (by rw [h.1]; exact hi),eo_2,y5g (by rw [h.len hi]; exact hj)]
 rfl
noncomputable def z0N (th : List Nat) (f : Nat->Nat->Bool) : List (List Bool):=th.map fun i=>th.map fun j=>f i j
theorem y1f {α β : Type} {f : α->β} {xs : List α} {i : Nat} {d : β} (h : i < xs.length) : (xs.map f).getD i d=f xs[i]:=by
 simp [be,h]
theorem y4p {th : List Nat} {f : Nat->Nat->Bool} : Sq th.length (z0N th f):=by
 refine ⟨by simp [z0N],fun r hr=>?_⟩
 obtain ⟨i,_,rfl⟩:=aI.mp hr
 simp
theorem z2C {th : List Nat} : y2X (thD th)=some (th.map nD):=(rfl)
theorem z5u {th : List Nat} : z3z [thD th]=some (.int (th.length : Int)):=by
 show some (D.int ((th.map nD).length : Nat))=_
 rw [aq]
theorem z7g : ∀ th : List Nat,z2l (th.map nD)=true
 | []=>rfl
 | n :: th=>by
  show (true && z2l (th.map nD))=true
  rw [z7g th]
  rfl
theorem y4b (th : List Nat) : okP (thD th)=true:=by
 have e : th.map nD=(th.map fun n=>((n : Nat) : Int)).map D.int:=by rw [aR]; rfl
 unfold okP thD
 rw [e,aJ,decide_eq_true_eq]
 refine ⟨z7o _,?_⟩
 show PyData.depthAll (z4F ((th.map fun n=>((n : Nat) : Int)).map D.int)) + 1≤60
 rw [z7Z]
 decide
theorem ne_self {d : D} (h : okP d=true) : neD d d=some (.bl false):=by
 unfold neD
 rw [h]
 show (if (true && true)=true then some (D.bl (!PyData.eqv (toP d) (toP d))) else none)=_
 rw [if_pos (show (true && true)=true from rfl),SeqAt.eqv_refl _ (z0w h).1]
 rfl
theorem app_thV {th : List Nat} {k : Nat} (hl : th.length≤1000000) : m0V z7P (some (thD th)) (some [.int (k : Int)])=some (thD (th ++ [k])):=by
 show Option.map _ (if (th.map nD).length < sizeLine then some (th.map nD ++ [.int (k : Int)]) else none)=_
 rw [aq,if_pos (by rw [PySem.sizeLine_eq]; omega)]
 unfold thD
 rw [a6]
 rfl
theorem y6b {fi : DS->Option (List D)} {c : DS->Option Bool} {f : DE} {δ : DS} : z5v fi c f δ=z1Q (fi δ) (two (z4c c f δ)):=by
 unfold z5v z1Q
 cases fi δ <;> rfl
theorem ev_enum {f : DE} {δ : DS} : y0t f δ=(f δ).bind y0j:=(rfl)
noncomputable def z4g (k : Nat) : List Bool->List Nat
 | []=>[]
 | b :: r=>if b=true then k :: z4g (k + 1) r else z4g (k + 1) r
theorem y3O : ∀ {r : List Bool} {k : Nat},z4g k r=(dh k r.length).filter fun i=>r.getD (i - k) false
 | [],_=>rfl
 | b :: r,k=>by
  have ih:=y3O (r:=r) (k:=k + 1)
  unfold z4g
  rw [a8,List.range'_succ]
  have e : (dh (k + 1) r.length).filter (fun i=>(b :: r).getD (i - k) false)=(dh (k + 1) r.length).filter fun i=>r.getD (i - (k + 1)) false:=by
   apply cD
   intro i hi
   have:=(List.mem_range'_1.mp hi).1
   have e : i - k=(i - (k + 1)) + 1:=by omega
   rw [e]
   rfl
  cases b with
  | true=>
   rw [dN (by simp),e,ih]
   rfl
  | false=>
   rw [dO (by simp),e,ih]
   rfl
theorem z6u : ∀ {ds : List D} {k : Nat},(z0s k ds).length=ds.length
 | [],_=>rfl
 | d :: r,k=>by show (z0s (k + 1) r).length + 1=r.length + 1; rw [z6u]
end L2
namespace L2
open PySem
noncomputable def chO (F G : D->D->Option D) (x y z : Option D) : Option D:=match x,y with
 | some x,some y=>match F x y with
  | some (.bl true)=>z.bind fun z=>G y z
  | some (.bl false)=>some (.bl false)
  | _=>none
 | _,_=>none
theorem y5V {F G : D->D->Option D} {f g h : DE} {δ : DS} : z7i F G f g h δ=chO F G (f δ) (g δ) (h δ):=by
 unfold z7i chO
 cases f δ <;> cases g δ <;> rfl
theorem y7C {F G : D->D->Option D} {x y z : D} {b c : Bool} (h1 : F x y=some (.bl b)) (h2 : G y z=some (.bl c)) : chO F G (some x) (some y) (some z)=some (.bl (b && c)):=by
 show (match F x y with
  | some (.bl true)=>(some z).bind fun z=>G y z
  | some (.bl false)=>some (.bl false)
  | _=>none)=_
 rw [h1]
 cases b with
 | true=>exact h2
 | false=>rfl
noncomputable def inO : Option D->Option D->Option Bool
 | some x,some y=>inK x y
 | _,_=>none
theorem ev_din' {f g : DE} {δ : DS} : y7k f g δ=inO (f δ) (g δ):=by
 unfold y7k inO
 cases f δ <;> cases g δ <;> rfl
theorem eo_in {x y : D} : inO (some x) (some y)=inK x y:=(rfl)
theorem ev_dnin {f g : DE} {δ : DS} : y7g f g δ=(y7k f g δ).map (!·):=(rfl)
noncomputable def y3V (o k v : Option D) : Option D:=match o,k,v with
 | some (.dct ks ds),some dk,some d=>(z9Z dk).bind fun k=>if z2l ds=true∧ks.length < sizeLine then some (.dct (z9J ks k) (z8T ks ds k d)) else none
 | _,_,_=>none
theorem m_dput {i : Nat} {s : SS} {dk d : D} {ks : List Key} {ds : List D} : (match z9Z dk,(some (some (SD.ow (.dct ks ds))) : Option (Option SD)) with
   | some k,some (some (.ow (.dct ks ds)))=>if z2l ds=true∧ks.length < sizeLine then some (Out.nx ((z0y i s).set i (some (.ow (.dct (z9J ks k) (z8T ks ds k d)))))) else none
   | _,_=>none)=z6P i (y3V (some (.dct ks ds)) (some dk) (some d)) s:=by
 show _=z6P i ((z9Z dk).bind _) s
 cases z9Z dk with
 | none=>rfl
 | some k=>
  show (if z2l ds=true∧ks.length < sizeLine then _ else _)=z6P i (if z2l ds=true∧ks.length < sizeLine then _ else _) s
  split <;> rfl
theorem ev_dput {i : Nat} {fk fv : DE} {s : SS} : dput i fk fv s=z6P i (y3V (owA i s) (fk (z0u s)) (y7M (fv (z0u s)))) s:=by
 unfold dput owA
 rcases fv (z0u s) with _ | d
 ·rcases fk (z0u s) with _ | dk <;> rcases s[i]? with _ | _ | ⟨x | x | ⟨r,x⟩⟩ <;> (first | rfl | (cases x <;> rfl))
 ·show (if d.imm=true then _ else _)=z6P i (y3V _ _ (if d.imm=true then some d else none)) s
  split
  ·rcases fk (z0u s) with _ | dk
   ·rcases s[i]? with _ | _ | ⟨x | x | ⟨r,x⟩⟩ <;> (first | rfl | (cases x <;> rfl))
   ·rw [ax]
    rcases s[i]? with _ | _ | ⟨x | x | ⟨r,x⟩⟩
    ·cases z9Z dk <;> rfl
    ·cases z9Z dk <;> rfl
    ·cases z9Z dk <;> rfl
    ·cases x with
     | dct ks ds=>exact m_dput
     | _=>(cases z9Z dk <;> rfl)
    ·cases z9Z dk <;> rfl
  ·rcases fk (z0u s) with _ | dk <;> rcases s[i]? with _ | _ | ⟨x | x | ⟨r,x⟩⟩ <;> (first | rfl | (cases x <;> rfl))
noncomputable def catO : Option D->Option D->Option (List D)
 | some x,some y=>catLs x y
 | _,_=>none
theorem ev_cat {f g : DE} {δ : DS} : dCat f g δ=catO (f δ) (g δ):=by
 unfold dCat catO
 cases f δ <;> cases g δ <;> rfl
theorem eo_cat {ds es : List D} (h : ds.length + es.length≤1000000) : catO (some (.lst ds)) (some (.lst es))=some (ds ++ es):=if_pos (z2T h)
theorem es_frz0 {d : D} {r : SS} : y7d 0 (some (.ow d) :: r)=some (.sh d) :: r:=(rfl)
theorem es_frzS {i : Nat} {x : Option SD} {r : SS} : y7d (i + 1) (x :: r)=x :: y7d i r:=by
 unfold y7d
 rw [dM]
 rcases r[i]? with _ | _ | ⟨y | y | ⟨q,y⟩⟩ <;> rfl
noncomputable def y0X (p : List Int) : D:=.dct (p.map Sum.inl) (p.map fun _=>.bl true)
theorem y5t {p : List Int} {x : Int} (h : x ∉ p) : inK (.int x) (y0X p)=some false:=by
 show some (y0m (p.map Sum.inl) (.inl x))=_
 congr 1
 unfold y0m
 rw [ca,cE]
 intro y hy z
 have : (Sum.inl y : Key)=Sum.inl x:=of_decide_eq_true z
 cases this
 exact h hy
theorem z9F : ∀ p : List Int,z2l (p.map fun _=>D.bl true)=true
 | []=>rfl
 | _ :: p=>by
  show (true && z2l (p.map fun _=>D.bl true))=true
  rw [z9F p]
  rfl
theorem y7Q {p : List Int} {x : Int} (h : x ∉ p) (hl : p.length≤1000000) : y3V (some (y0X p)) (some (.int x)) (some (.bl true))=some (y0X (p ++ [x])):=by
 show (if z2l (p.map fun _=>D.bl true)=true∧(p.map (Sum.inl : Int->Key)).length < sizeLine then _ else _)=_
 rw [if_pos ⟨z9F p,by rw [aq,PySem.sizeLine_eq]; omega⟩]
 have hh : y0m (p.map Sum.inl) (.inl x)=false:=by
  have:=y5t h
  exact Option.some.inj this
 unfold z9J z8T y0X
 rw [hh,if_neg ao,if_neg ao,a6,a6]
 rfl
theorem rngI_nodup {m : Nat} : (rngI m).Nodup:=by
 unfold rngI
 rw [dA,aY]
 refine List.Pairwise.imp ?_ (dA.mp bp)
 intro a b h z
 exact h (by omega)
end L2
namespace Prg
open PySem L2
noncomputable def extV (o x : Option D) : Option D:=match x,o with
 | some (.lst es),some (.lst ds)=>if ds.length + es.length≤sizeLine then some (.lst (ds ++ es)) else none
 | _,_=>none
theorem y6v {i : Nat} {f : DE} {s : SS} : y3j i f s=z6P i (extV (owA i s) (f (z0u s))) s:=by
 unfold y3j owA
 rcases f (z0u s) with _ | d
 ·rcases s[i]? with _ | _ | ⟨x | x | ⟨r,x⟩⟩ <;> (first | rfl | (cases x <;> rfl))
 ·rcases s[i]? with _ | _ | ⟨x | x | ⟨r,x⟩⟩ <;> cases d <;> (first | rfl | (cases x <;> first | rfl | skip))
  rename_i es ds
  show (if ds.length + es.length≤sizeLine then some _ else none)=z6P i (if ds.length + es.length≤sizeLine then some _ else none) s
  split <;> rfl
theorem eo_ext {ds es : List D} (h : ds.length + es.length≤1000000) : extV (some (.lst ds)) (some (.lst es))=some (.lst (ds ++ es)):=if_pos (z2T h)
theorem y1y : ∀ ns : List Int,z3h (ns.map .int)=some ns
 | []=>rfl
 | n :: ns=>by
  rw [aT]
  unfold z3h
  rw [y1y ns]
  rfl
theorem y1x {ns : List Int} (h : ns.length < 64) : z9C [.lst (ns.map .int)]=some ((z5F ns).map .int):=by
 show ((z3h (ns.map .int)).bind fun ns=>if ns.length < 64 then some ((z5F ns).map D.int) else none)=_
 rw [y1y,ax,if_pos h]
noncomputable def sm (f : Nat->Nat) : Nat->Nat
 | 0=>0
 | n + 1=>sm f n + f n
end Prg
namespace L2
open PySem
theorem z8W {α : Type} {enc : α->D} {c : DS->Option Bool} {f : DE} {δ : DS} (p : α->Bool) (g : α->D) {xs : List α} (hl : xs.length≤1000) (hc : ∀ x∈xs,c (δ ++ [some (enc x)])=some (p x)) (hf : ∀ x∈xs,p x=true->f (δ ++ [some (enc x)])=some (g x)) : z1Q (some (xs.map enc)) (z2m c f δ)=some ((xs.filter p).map g):=by
 rw [z4q (by rw [aq]; omega)]
 exact y0S p g hc hf
theorem z2o {α : Type} {enc : α->D} {f : DE} {δ : DS} (g : α->D) {xs : List α} (hl : xs.length≤1000) (hf : ∀ x∈xs,f (δ ++ [some (enc x)])=some (g x)) : z1Q (some (xs.map enc)) (z2m z2Y f δ)=some (xs.map g):=by
 rw [z4q (by rw [aq]; omega)]
 exact z3U g hf
theorem z2q {m : Nat} (h : m≤1000000) : rng1 (some (.int (m : Int)))=some (z4A 0 m):=by rw [y0c (by omega)]; rfl
theorem y3N {a : Nat} {th : List Nat} : y4g (.int (a : Int)) (thD th)=some (th.contains a):=by
 unfold thD y4g
 show (if (okP (.int (a : Int)) && okP (.lst (th.map nD)))=true then _ else none)=_
 rw [show okP (.lst (th.map nD))=true from y4b th,show okP (.int (a : Int))=true from rfl]
 show some ((th.map nD).any fun y=>PyData.eqv (toP y) (toP (.int (a : Int))))=_
 congr 1
 rw [ca,cG]
 congr 1
 funext x
 show decide ((x : Int)=(a : Int))=(a == x)
 by_cases h : x=a
 ·subst h; simp
 ·have : ¬ a=x:=fun e=>h e.symm
  have h2 : ¬ (x : Int)=(a : Int):=by omega
  simp [this,h2]
theorem in_ths {a : Nat} {th : List Nat} : inD (.int (a : Int)) (thD th)=some (.bl (th.contains a)):=by
 unfold inD
 rw [y3N]
 rfl
theorem nin_ths {a : Nat} {th : List Nat} : y8a (.int (a : Int)) (thD th)=some (.bl (!th.contains a)):=by
 unfold y8a
 rw [y3N]
 rfl
theorem y8q {th : List Nat} : z6m (thD th)=some (!th.isEmpty):=by cases th <;> rfl
theorem y1J {α : Type} {enc : α->D} {c : DS->Option Bool} {f : DE} {δ : DS} (p : Nat->α->Bool) (g : Nat->α->D) : ∀ {xs : List α} {k : Nat},(∀ i (h : i < xs.length),c (δ ++ [some (.int ((k + i : Nat) : Int)),some (enc xs[i])])=some (p (k + i) xs[i]))->(∀ i (h : i < xs.length),p (k + i) xs[i]=true->f (δ ++ [some (.int ((k + i : Nat) : Int)),some (enc xs[i])])=some (g (k + i) xs[i])) →
  z1U (two (z4c c f δ)) (z0s k (xs.map enc))=some (((xs.zipIdx k).filter fun z=>p z.2 z.1).map fun z=>g z.2 z.1)
 | [],_,_,_=>rfl
 | x :: r,k,hc,hf=>by
  have ih:=y1J (xs:=r) (k:=k + 1) p g (fun i h=>by
   have:=hc (i + 1) (by simpa using h)
   have e : k + 1 + i=k + (i + 1):=by omega
   rw [e]
   simpa using this) fun i h hp=>by
   have e : k + 1 + i=k + (i + 1):=by omega
   rw [e] at hp ⊢
   have:=hf (i + 1) (by simpa using h) (by simpa using hp)
   simpa using this
  show z1U _ (.tup [.int (k : Nat),enc x] :: z0s (k + 1) (r.map enc))=_
  unfold z1U
  rw [ih]
  have h0:=hc 0 (by simp)
  have h1:=hf 0 (by simp)
  simp only [Nat.add_zero,List.getElem_cons_zero] at h0 h1
  have e : two (z4c c f δ) (.tup [.int (k : Nat),enc x])=some (if p k x=true then some (g k x) else none):=by
   show z4c c f δ (.int (k : Nat)) (enc x)=_
   unfold z4c
   rw [h0]
   cases hp : p k x with
   | true=>
    have:=h1 hp
    show (if true=true then (f (δ ++ [some (.int (k : Nat)),some (enc x)])).map some else some none)=_
    rw [if_pos rfl,this]
    rfl
   | false=>rfl
  rw [e,List.zipIdx_cons,bB]
  show some (y6o _ _)=_
  cases hp : p k x with
  | true=>rfl
  | false=>rfl
theorem y8r {α : Type} {enc : α->D} {c : DS->Option Bool} {f : DE} {δ : DS} (p : Nat->α->Bool) (g : Nat->α->D) {xs : List α} (hl : xs.length≤1000) (hc : ∀ i (h : i < xs.length),c (δ ++ [some (.int (i : Int)),some (enc xs[i])])=some (p i xs[i])) (hf : ∀ i (h : i < xs.length),p i xs[i]=true->f (δ ++ [some (.int (i : Int)),some (enc xs[i])])=some (g i xs[i])) :
  z1Q (some (z0s 0 (xs.map enc))) (two (z4c c f δ))=some ((xs.zipIdx.filter fun z=>p z.2 z.1).map fun z=>g z.2 z.1):=by
 rw [z4q (by rw [z6u,aq]; omega)]
 refine y1J p g (fun i h=>?_) fun i h hp=>?_
 ·rw [Nat.zero_add]; exact hc i h
 ·rw [Nat.zero_add] at hp ⊢; exact hf i h hp
theorem cx2_all {α : Type} {enc : α->D} {f : DE} {δ : DS} (g : Nat->α->D) {xs : List α} (hl : xs.length≤1000) (hf : ∀ i (h : i < xs.length),f (δ ++ [some (.int (i : Int)),some (enc xs[i])])=some (g i xs[i])) :
  z1Q (some (z0s 0 (xs.map enc))) (two (z4c z2Y f δ))=some (xs.zipIdx.map fun z=>g z.2 z.1):=by
 rw [y8r (fun _ _=>true) g hl (fun _ _=>rfl) fun i h _=>hf i h,bY.mpr fun _ _=>rfl]
theorem y4u {th : List Nat} : y0j (thD th)=some (z0s 0 (th.map nD)):=(rfl)
theorem y6i {o : List Nat} {k : Nat} : cut3 (some (thD o)) (some (some ((k : Int) + 1))) (some none)=some ((o.drop (k + 1)).map nD):=by
 show some (y8d (o.map nD) (some ((k : Int) + 1)) none)=_
 unfold y8d
 have e1 : HT.sIx (o.map nD).length (o.map nD).length none=(o.map nD).length:=rfl
 have e2 : HT.sIx (o.map nD).length 0 (some ((k : Int) + 1))=min (k + 1) (o.map nD).length:=by
  show (if ((k : Int) + 1) < 0 then (((k : Int) + 1) + ((o.map nD).length : Int)).toNat else min ((k : Int) + 1).toNat (o.map nD).length)=_
  rw [if_neg (by omega)]
  congr 1
 rw [e1,e2,List.map_drop]
 congr 1
 by_cases h : k + 1≤(o.map nD).length
 ·rw [Nat.min_eq_left h,dQ (by simp)]
 ·rw [Nat.min_eq_right (by omega),dU (as:=o.map nD) (ar _),List.take_nil,dU (by omega)]
theorem y5d {a b : List Nat} (h : a.length + b.length≤1000000) : catO (some (thD a)) (some (thD b))=some ((a ++ b).map nD):=by
 show catO (some (.lst (a.map nD))) (some (.lst (b.map nD)))=_
 rw [eo_cat (by rw [aq,aq]; exact h),a6]
theorem z8N (o : List Nat) : D.lst (o.map nD)=thD o:=(rfl)
theorem th_one {j : Nat} : D.lst [.int (j : Int)]=thD [j]:=(rfl)
theorem z1I (o : List Nat) : z6L (some (o.map nD))=some (o.map nD):=z3i (z7g o)
theorem z2F : z6L (some [])=some []:=(rfl)
theorem y3a : D.lst []=thD []:=(rfl)
noncomputable def movX (x : Option D) (i j : Nat) (s : SS) : Option Out:=match x with
 | some d=>some (.nx (((z0y j s).set j none).set i (some (.ow d))))
 | none=>none
theorem ev_mov {i j : Nat} {s : SS} : movO i j s=movX (owA j s) i j s:=by
 unfold movO owA movX
 generalize s[j]? = z
 rcases z with _ | _ | x
 ·rfl
 ·rfl
 ·cases x <;> rfl
theorem eo_mov {d : D} {i j : Nat} {s : SS} : movX (some d) i j s=some (.nx (((z0y j s).set j none).set i (some (.ow d)))):=(rfl)
theorem z4K {c : DS->Option Bool} {b : SS->Option Out} {QO : Out->Prop} (I : Nat->SS->Prop) : ∀ {n : Nat} {s : SS},I n s->(∀ n δ,I n δ->∃ k,c (z0u δ)=some k∧(k=false->QO (.nx δ))∧(k=true->∃ n',n=n' + 1∧hol (b δ) fun o=>match o with | .nx δ'=>I n' δ' | .ct δ'=>I n' δ' | .bk δ'=>QO (.nx δ') | .rt d=>QO (.rt d) | .ex e δ'=>QO (.ex e δ')))->∀ {f : Nat},n < f->hol (z4h c b f s) QO
 | n,s,h0,hs,0,hf=>absurd hf (by omega)
 | n,s,h0,hs,f + 1,hf=>by
  obtain ⟨k,ec,h1,h2⟩:=hs n s h0
  unfold z4h
  rw [ec]
  cases k with
  | false=>exact ⟨_,rfl,h1 rfl⟩
  | true=>
   obtain ⟨n',rfl,o,eb,q⟩:=h2 rfl
   show hol ((b s).bind _) QO
   rw [eb]
   cases o with
   | nx s1=>exact z4K I q hs (by omega)
   | ct s1=>exact z4K I q hs (by omega)
   | bk s1=>exact ⟨_,rfl,q⟩
   | rt d=>exact ⟨_,rfl,q⟩
   | ex e s1=>exact ⟨_,rfl,q⟩
theorem y3J {np nl : Nat} {b : SS->Option Out} {ds : List D} {d : D} (hl : ds.length=np) (h : hol (b (ds.map (fun d=>some (.sh d)) ++ aj nl none)) fun o=>o = .rt d) : y8I np nl b ds=some (.val d):=by
 unfold y8I
 rw [if_pos hl,hol_is.mp h]
noncomputable def rsX (c : Nat) (x : Option D) (s : SS) : Option Out:=match x with
 | some _=>some (.ex c s)
 | none=>none
theorem y6D {c : Nat} {f : DE} {s : SS} : z5q c f s=rsX c (f (z0u s)) s:=by
 unfold z5q rsX
 generalize f (z0u s)=x
 cases x <;> rfl
theorem y7I {c : Nat} {d : D} {s : SS} : rsX c (some d) s=some (.ex c s):=(rfl)
theorem y7N {m : List D->Option XO} {fl : List DE} {δ : DS} : z7l m fl δ=(z0q fl δ).bind m:=(rfl)
theorem y6O {m : List D->Option XO} {fl : List DE} {δ : DS} : y1k m fl δ=valO ((z0q fl δ).bind m):=(rfl)
noncomputable def repO (x y : Option D) : Option (List D):=x.bind fun a=>y.bind fun b=>repLs a b
theorem ev_rep {f g : DE} {δ : DS} : dRep f g δ=repO (f δ) (g δ):=(rfl)
theorem y5b {d : D} {n : Nat} (h : n≤1000000) : repO (some (.lst [d])) (some (.int (n : Int)))=some (aj n d):=by
 have e : ∀ k : Nat,(aj k [d]).flatten=aj k d:=fun k=>by
  induction k with
  | zero=>rfl
  | succ k ih=>rw [bn,bx,ih,bn]; rfl
 show (if (0≤(n : Int)∧(n : Int)≤1000000)∧[d].length * (n : Int).toNat≤sizeLine then some (aj (n : Int).toNat [d]).flatten else none)=_
 rw [if_pos ⟨⟨by omega,by omega⟩,z2T (by simp; exact h)⟩,ce,e]
theorem y7T {f g : DE} {δ : DS} : y3L f g δ=o2 mkD1 (f δ) (g δ):=ev_d2
theorem ev_rngN {f g h : DE} {δ : DS} : y6J f g h δ=rngN (f δ) (g δ) (h δ):=(rfl)
theorem ea_mkD1 {a b : Int} : mkD1 (.int a) (.int b)=some (.dct [.inl a] [.int b]):=(rfl)
noncomputable def forX2 (i j : Nat) (xs : Option (List D)) (b : SS->Option Out) (s : SS) : Option Out:=xs.bind fun ds=>z4Y i j b ds s
theorem y6X {i j : Nat} {f : DS->Option (List D)} {g : SS->Option Out} {s : SS} : y6Q i j f g s=forX2 i j (f (shV s)) g s:=(rfl)
theorem eo_for2 {i j : Nat} {ds : List D} {b : SS->Option Out} {s : SS} : forX2 i j (some ds) b s=z4Y i j b ds s:=(rfl)
theorem z8A {α : Type} {enc : α->D} {i j : Nat} {b : SS->Option Out} {QO : Out->Prop} {xs : List α} (I : List α->SS->Prop) (hs : ∀ pre x post,xs=pre ++ x :: post->∀ δ,I pre δ->hol (b ((δ.set i (some (.sh (.int ((pre.length : Nat) : Int))))).set j (some (.sh (enc x))))) fun o=>match o with | .nx δ'=>I (pre ++ [x]) δ' | .ct δ'=>I (pre ++ [x]) δ' | .bk δ'=>QO (.nx δ') | .rt d=>QO (.rt d) | .ex c δ'=>QO (.ex c δ')) (he : ∀ δ,I xs δ->QO (.nx δ)) :
  ∀ {post pre : List α} {s : SS},xs=pre ++ post->I pre s->hol (z4Y i j b (z0s pre.length (post.map enc)) s) QO
 | [],pre,s,e,h=>⟨_,rfl,he s (by rw [e,aL]; exact h)⟩
 | x :: post,pre,s,e,h=>by
  obtain ⟨o,eo,q⟩:=hs pre x post e s h
  have e2 : z0s pre.length ((x :: post).map enc) = .tup [.int ((pre.length : Nat) : Int),enc x] :: z0s (pre ++ [x]).length (post.map enc):=by
   rw [aT,aK]
   rfl
  rw [e2]
  unfold z4Y
  show hol ((b ((s.set i (some (.sh (.int ((pre.length : Nat) : Int))))).set j (some (.sh (enc x))))).bind _) QO
  rw [eo]
  have e3 : xs=(pre ++ [x]) ++ post:=by rw [e]; simp
  cases o with
  | nx s1=>exact z8A I hs he e3 q
  | ct s1=>exact z8A I hs he e3 q
  | bk s1=>exact ⟨_,rfl,q⟩
  | rt d=>exact ⟨_,rfl,q⟩
  | ex c s1=>exact ⟨_,rfl,q⟩
theorem eo_val {d : D} : valO (some (.val d))=some d:=(rfl)
noncomputable def xeO (x : Option XO) (s : SS) : Option Out:=match x with
 | some (.val _)=>some (.nx s)
 | some (.exc c)=>some (.ex c s)
 | none=>none
theorem y7c {F : DS->Option XO} {s : SS} : y4s F s=xeO (F (z0u s)) s:=by
 unfold y4s xeO
 generalize F (z0u s)=x
 rcases x with _ | _ | _ <;> rfl
theorem eo_xeV {d : D} {s : SS} : xeO (some (.val d)) s=some (.nx s):=(rfl)
theorem es_own0 {d : D} {r : SS} : z6X (some (.ow d) :: r) 0=some d:=(rfl)
theorem es_ownS {x : Option SD} {r : SS} {i : Nat} : z6X (x :: r) (i + 1)=z6X r i:=by
 unfold z6X
 rw [dM]
end L2
namespace L2
open PySem
noncomputable def iv1 : Option D->Option (Int × Nat)
 | some (.int j)=>if -(2 ^ 62)≤j∧j < 2 ^ 62 then some (0,j.toNat) else none
 | _=>none
theorem ev_iv1 {f : DE} {δ : DS} : dIv1 f δ=iv1 (f δ):=(rfl)
noncomputable def forIX (i : Nat) (o : Option (Int × Nat)) (b : SS->Option Out) (s : SS) : Option Out:=o.bind fun z=>z5z i b (z4A z.1 z.2) s
theorem ev_forI {i : Nat} {f : DS->Option (Int × Nat)} {b : SS->Option Out} {s : SS} : forI i f b s=forIX i (f (z0u s)) b s:=(rfl)
theorem eo_forI {i : Nat} {lo : Int} {n : Nat} {b : SS->Option Out} {s : SS} : forIX i (some (lo,n)) b s=z5z i b (z4A lo n) s:=(rfl)
theorem eo_iv1 {n : Int} (h : -(2 ^ 62)≤n∧n < 2 ^ 62) : iv1 (some (.int n))=some (0,n.toNat):=if_pos h
theorem y3e {m : Nat} (h : m≤1000000) : iv1 (some (.int (m : Int)))=some (0,m):=by rw [eo_iv1 (by omega)]; rfl
noncomputable def r3O (x y z : Option D) : Option Out:=match x,y,z with
 | some d,some e,some f=>some (.rt (.lst [d,e,f]))
 | _,_,_=>none
theorem ev_ret3 {i j l : Nat} {s : SS} : ret3 i j l s=r3O (z6X s i) (z6X s j) (z6X s l):=by
 unfold ret3 r3O
 generalize z6X s i=x
 generalize z6X s j=y
 generalize z6X s l=z
 rcases x with _ | x <;> rcases y with _ | y <;> rcases z with _ | z <;> rfl
theorem eo_r3 {d e f : D} : r3O (some d) (some e) (some f)=some (.rt (.lst [d,e,f])):=(rfl)
theorem y2g {x : Option Out} {b : SS->Option Out} {I : SS->Prop} {d : D} (h : hol x fun o=>(∃ s,o = .nx s∧I s)∨o = .rt d) (k : ∀ s,I s->hol (b s) fun o=>o = .rt d) : hol (y2z x b) fun o=>o = .rt d:=by
 obtain ⟨o,rfl,q⟩:=h
 rcases q with ⟨s,rfl,q⟩ | rfl
 ·exact k s q
 ·exact ⟨_,rfl,rfl⟩
theorem z7E {α : Type} {enc : α->D} {xs : List α} {x : α} (hl : xs.length≤1000000) : m0V z7P (some (.lst (xs.map enc))) (some [enc x])=some (.lst ((xs ++ [x]).map enc)):=by
 show (if (xs.map enc).length < sizeLine then some (xs.map enc ++ [enc x]) else none).map D.lst=_
 rw [aq,if_pos (by rw [PySem.sizeLine_eq]; omega),a6]
 rfl
theorem y6t {α : Type} {enc : α->D} {xs : List α} {x : α} {b : Nat} (hb : b≤xs.length) (hl : xs.length≤1000000) : m0V insF (some (.lst (xs.map enc))) (some [.int (b : Int),enc x])=some (.lst ((xs.take b ++ x :: xs.drop b).map enc)):=by
 show Option.map _ (if (xs.map enc).length < sizeLine∧-(2 ^ 63)≤(b : Int)∧(b : Int) < 2 ^ 63 then _ else none)=_
 rw [aq,if_pos ⟨by rw [PySem.sizeLine_eq]; omega,by omega,by omega⟩,ins_at hb]
 rw [a6,aT,List.map_take,List.map_drop]
 rfl
theorem ix_map {α : Type} {enc : α->D} {xs : List α} {k : Nat} {x : α} (h : xs[k]? = some x) : ixD (.lst (xs.map enc)) (.int (k : Int))=some (enc x):=z8Q (by rw [aN,h]; rfl)
theorem y3Z {α : Type} {enc : α->D} {xs : List α} {k : Nat} {d : α} (h : k < xs.length) : ixD (.lst (xs.map enc)) (.int (k : Int))=some (enc (xs.getD k d)):=ix_map (by simp [be,ae h])
theorem len_map {α : Type} {enc : α->D} {xs : List α} : z3z [.lst (xs.map enc)]=some (.int (xs.length : Int)):=by
 show some (D.int ((xs.map enc).length : Int))=_
 rw [aq]
theorem y8h {x : D} {r : List D} : atI (x :: r) 0=some x:=z8z (j:=0) rfl
theorem ea_min {i j : Int} : minF [.int i,.int j]=some (.int (if j < i then j else i)):=(rfl)
noncomputable def y7Z (ws : List Int) : D:=.lst (ws.map .int)
theorem y6n {f : DE} {δ : DS} : y1s f δ=(f δ).bind z9a:=(rfl)
end L2
namespace L2
open PySem
noncomputable def cM2 (F : List D->Option D) (a b : Option D) (cs : Option (List D)) : Option D:=a.bind fun a=>b.bind fun b=>cs.bind fun cs=>F (a :: b :: cs)
theorem y3v {F : List D->Option D} {f0 f1 : DE} {fl : List DE} {δ : DS} : z6e F f0 f1 fl δ=cM2 F (f0 δ) (f1 δ) (z0q fl δ):=(rfl)
theorem eo_cM2 {F : List D->Option D} {a b : D} {cs : List D} : cM2 F (some a) (some b) (some cs)=F (a :: b :: cs):=(rfl)
noncomputable def r1O (x : Option D) : Option Out:=x.map fun d=>.rt (.lst [d])
theorem ev_ret1 {i : Nat} {s : SS} : ret1 i s=r1O (z6X s i):=(rfl)
theorem eo_r1 {d : D} : r1O (some d)=some (.rt (.lst [d])):=(rfl)
theorem y1R {np nl : Nat} {b : SS->Option Out} {du d0 : D} {ds : List D} {d : D} (hl : ds.length + 2=np) (h : hol (b (some (.sh du) :: some (.ow d0) :: ds.map (fun d=>some (.sh d)) ++ aj nl none)) fun o=>o = .rt d) : y0H np nl b (du :: d0 :: ds)=some d:=by
 obtain ⟨o,e,rfl⟩:=h
 show (if ds.length + 2=np then _ else none)=some d
 rw [if_pos hl]
 rw [e]
noncomputable def apX (x y : Option D) (i j : Nat) (s : SS) : Option Out:=match x,y with
 | some d,some (.lst ds)=>(z7P ds [d]).map fun ds'=>.nx (givS i j (.lst ds') s)
 | _,_=>none
theorem ev_appO {i j : Nat} {s : SS} : appO i j s=apX (owA j s) (owA i s) i j s:=by
 unfold appO owA apX
 rcases s[j]? with _ | _ | ⟨x | x | ⟨r,x⟩⟩ <;> rcases s[i]? with _ | _ | ⟨y | y | ⟨r',y⟩⟩ <;> (first | rfl | (cases y <;> rfl))
theorem ap_map {α : Type} {enc : α->D} {xs : List α} {x : α} {i j : Nat} {s : SS} (hl : xs.length≤1000000) : apX (some (enc x)) (some (.lst (xs.map enc))) i j s=some (.nx (((z0y i (z0y j s)).set j none).set i (some (.ow (.lst ((xs ++ [x]).map enc)))))):=by
 have : z7P (xs.map enc) [enc x]=some (xs.map enc ++ [enc x]):=if_pos (by rw [aq,PySem.sizeLine_eq]; omega)
 show (z7P (xs.map enc) [enc x]).map _=_
 rw [this,a6]
 rfl
end L2
namespace L2
open PySem
noncomputable def y6K (o x : Option D) : Option D:=match x,o with
 | some (.lst es),some (.lst ds)=>if z2l es=true∧ds.length + es.length≤sizeLine then some (.lst (ds ++ es)) else none
 | _,_=>none
theorem y6A {i : Nat} {f : DE} {s : SS} : y3B i f s=z6P i (y6K (owA i s) (f (z0u s))) s:=by
 unfold y3B owA
 cases f (z0u s) with
 | none=>rcases s[i]? with _ | _ | ⟨x | x | ⟨r,x⟩⟩ <;> rfl
 | some d=>
  cases d <;> rcases s[i]? with _ | _ | ⟨x | x | ⟨r,x⟩⟩ <;> (first | rfl | (cases x <;> (first | rfl | (show (if _ then _ else _)=z6P i (if _ then _ else _) s; split <;> rfl))))
theorem eo_extD {ds es : List D} (hi : z2l es=true) (h : ds.length + es.length≤1000000) : y6K (some (.lst ds)) (some (.lst es))=some (.lst (ds ++ es)):=if_pos ⟨hi,z2T h⟩
end L2
namespace L2
open PySem
end L2
namespace L2
open PySem
end L2
namespace L2
open PySem
end L2
namespace L2
open PySem
end L2
set_option maxHeartbeats 4000000
namespace Prg
open PySem PySem.Spec PyProof.Rows L2
noncomputable def top (i : Nat) : Stmt:=PySem.Challenge.pw_askorder_k76_whole_uncovered_and_crowns.main.body.getD i (.Pass ⟨0,0,0,0⟩)
noncomputable abbrev z7m : Stmt:=top 4
noncomputable abbrev N_part : List Str:=["table", "things"]
noncomputable abbrev y4y : List Str:=["table", "things"]
noncomputable abbrev z4b : Stmt:=top 5
noncomputable abbrev y6c : List Str:=["row", "things"]
noncomputable abbrev z8o : List Str:=["row", "things"]
noncomputable abbrev z1T : Stmt:=top 6
noncomputable abbrev z9U : List Str:=["table", "one"]
noncomputable abbrev z4l : List Str:=["table", "one"]
noncomputable abbrev z1S : Stmt:=top 7
noncomputable abbrev y0O : List Str:=["table", "one", "things"]
noncomputable abbrev z4t : List Str:=["table", "one", "things"]
noncomputable abbrev z1m : Stmt:=top 8
noncomputable abbrev z8b : List Str:=["marks"]
noncomputable abbrev z3j : List Str:=["marks"]
noncomputable abbrev z2V : Stmt:=top 10
noncomputable abbrev y4X : List Str:=["table", "one"]
noncomputable abbrev z5Q : List Str:=["table", "one"]
noncomputable abbrev z1E : Stmt:=top 11
noncomputable abbrev z8F : List Str:=["table", "one", "steps", "edge", "further", "here", "other"]
noncomputable abbrev z3D : List Str:=["table", "one"]
noncomputable abbrev z4Z : Stmt:=top 12
noncomputable abbrev N_rings : List Str:=["table", "counts"]
noncomputable abbrev y0D : List Str:=["table"]
noncomputable abbrev z1l : Stmt:=top 13
noncomputable abbrev z7G : List Str:=["counts", "wanted"]
noncomputable abbrev z3d : List Str:=["counts", "wanted"]
noncomputable abbrev z0G : Stmt:=top 15
noncomputable abbrev z5l : List Str:=["table", "things"]
noncomputable abbrev z1W : List Str:=["table", "things"]
noncomputable abbrev z2R : Stmt:=top 16
noncomputable abbrev y4e : List Str:=["table", "things"]
noncomputable abbrev z6d : List Str:=["table", "things"]
noncomputable abbrev z1p : Stmt:=top 17
noncomputable abbrev z7F : List Str:=["table", "other", "things", "marks"]
noncomputable abbrev z3n : List Str:=["table", "other", "things"]
noncomputable abbrev z2W : Stmt:=top 18
noncomputable abbrev y5y : List Str:=["table", "things", "wider", "further"]
noncomputable abbrev z6x : List Str:=["table", "things"]
noncomputable abbrev z5h : Stmt:=top 19
noncomputable abbrev N_parts : List Str:=["table", "from_the_top", "found", "thing", "mates"]
noncomputable abbrev y0P : List Str:=["table"]
noncomputable abbrev z0R : Stmt:=top 20
noncomputable abbrev z6B : List Str:=["table", "thing"]
noncomputable abbrev z2w : List Str:=["table", "thing"]
noncomputable abbrev z1b : Stmt:=top 21
noncomputable abbrev z6E : List Str:=["table", "thing", "other"]
noncomputable abbrev z2H : List Str:=["table", "thing", "other"]
noncomputable abbrev z2t : Stmt:=top 23
noncomputable abbrev y2l : List Str:=["value", "many"]
noncomputable abbrev z5n : List Str:=["value", "many"]
noncomputable abbrev z0E : Stmt:=top 24
noncomputable abbrev z5i : List Str:=["order", "many", "told", "thing"]
noncomputable abbrev z1R : List Str:=["order", "many"]
noncomputable abbrev z2b : Stmt:=top 26
noncomputable abbrev z9T : List Str:=["pieces", "many", "told", "piece", "places", "place", "thing"]
noncomputable abbrev z3r : List Str:=["pieces", "many"]
noncomputable abbrev z3Q : Stmt:=top 27
noncomputable abbrev y6w : List Str:=["table", "pieces"]
noncomputable abbrev z5O : List Str:=["table", "pieces"]
noncomputable abbrev z3X : Stmt:=top 29
noncomputable abbrev y7p : List Str:=["table", "one", "other"]
noncomputable abbrev z7I : List Str:=["table", "one", "other"]
noncomputable abbrev z1X : Stmt:=top 30
noncomputable abbrev y0a : List Str:=["table"]
noncomputable abbrev z4y : List Str:=["table"]
noncomputable abbrev z1A : Stmt:=top 31
noncomputable abbrev z9c : List Str:=["table", "one"]
noncomputable abbrev z3M : List Str:=["table", "one"]
noncomputable abbrev z2s : Stmt:=top 33
noncomputable abbrev y1Z : List Str:=["table", "things"]
noncomputable abbrev z5o : List Str:=["table", "things"]
noncomputable abbrev z2O : Stmt:=top 34
noncomputable abbrev y4n : List Str:=["table", "things"]
noncomputable abbrev z5S : List Str:=["table", "things"]
noncomputable abbrev z3T : Stmt:=top 35
noncomputable abbrev y7n : List Str:=["table", "chain"]
noncomputable abbrev z7O : List Str:=["table", "chain"]
noncomputable abbrev z3Z : Stmt:=top 37
noncomputable abbrev y7L : List Str:=["table"]
noncomputable abbrev z7u : List Str:=["table"]
noncomputable abbrev z1k : Stmt:=top 38
noncomputable abbrev z7L : List Str:=["table", "thing", "chains", "chain"]
noncomputable abbrev z3c : List Str:=["table", "thing"]
noncomputable abbrev z0K : Stmt:=top 39
noncomputable abbrev z6M : List Str:=["table", "chain", "further", "chains", "thing"]
noncomputable abbrev z2f : List Str:=["table", "chain", "further"]
noncomputable abbrev z1c : Stmt:=top 41
noncomputable abbrev z6Q : List Str:=["script", "k"]
noncomputable abbrev z2M : List Str:=["script", "k"]
noncomputable abbrev z0S : Stmt:=top 42
noncomputable abbrev z6j : List Str:=["cell", "many", "rows", "rest", "one", "other"]
noncomputable abbrev z2x : List Str:=["cell", "many"]
noncomputable abbrev z1C : Stmt:=top 43
noncomputable abbrev z8D : List Str:=["script", "many", "outer", "inner", "homes", "k", "cell", "most", "size", "at", "turn"]
noncomputable abbrev z3P : List Str:=["script"]
noncomputable abbrev z1D : Stmt:=top 44
noncomputable abbrev z9P : List Str:=["mixed", "one", "other"]
noncomputable abbrev z3K : List Str:=["mixed", "one", "other"]
noncomputable abbrev z1F : Stmt:=top 45
noncomputable abbrev z8K : List Str:=["mixed", "rows", "one"]
noncomputable abbrev z3G : List Str:=["mixed"]
noncomputable abbrev z1r : Stmt:=top 46
noncomputable abbrev z7y : List Str:=["mixed", "pieces", "k"]
noncomputable abbrev z3a : List Str:=["mixed"]
noncomputable abbrev z1Z : Stmt:=top 47
noncomputable abbrev y0N : List Str:=["table", "things"]
noncomputable abbrev z4m : List Str:=["table", "things"]
noncomputable abbrev z1s : Stmt:=top 48
noncomputable abbrev z8e : List Str:=["pieces", "upper", "inner", "found", "k"]
noncomputable abbrev z3o : List Str:=["pieces", "upper", "inner"]
noncomputable abbrev z7J : Stmt:=top 49
noncomputable abbrev N_law : List Str:=["script", "mixed", "table", "pieces", "outer", "inner", "due"]
noncomputable abbrev P_law : List Str:=["script"]
theorem nd0 : (["row", "things", "other"] : List Str).Nodup:=by decide +kernel
theorem nd1 : (["table", "things", "one"] : List Str).Nodup:=by decide +kernel
theorem nd2 : (["table", "one", "things", "other"] : List Str).Nodup:=by decide +kernel
theorem nd3 : (["marks", "place", "mark"] : List Str).Nodup:=by decide +kernel
theorem nd4 : (["counts", "wanted", "place", "count"] : List Str).Nodup:=by decide +kernel
theorem nd5 : (["table", "counts", "count"] : List Str).Nodup:=by decide +kernel
theorem nd6 : (["table", "counts", "one"] : List Str).Nodup:=by decide +kernel
theorem nd7 : (["table", "other", "things", "marks", "thing"] : List Str).Nodup:=by decide +kernel
theorem nd8 : (["table", "things", "other"] : List Str).Nodup:=by decide +kernel
theorem nd9 : (["table", "thing", "other"] : List Str).Nodup:=by decide +kernel
theorem nd10 : (["table", "pieces", "piece"] : List Str).Nodup:=by decide +kernel
theorem nd11 : (["table", "one", "other"] : List Str).Nodup:=by decide +kernel
theorem nd12 : (["table", "one"] : List Str).Nodup:=by decide +kernel
theorem nd13 : (["table", "things", "place", "one"] : List Str).Nodup:=by decide +kernel
theorem nd14 : (["table", "chain", "further", "chains", "thing", "other"] : List Str).Nodup:=by decide +kernel
theorem nd15 : (["table", "thing", "chains", "3", "chain"] : List Str).Nodup:=by decide +kernel
theorem nd16 : (["table", "thing"] : List Str).Nodup:=by decide +kernel
theorem nd17 : (["cell", "many", "rows", "rest", "one", "other", "k"] : List Str).Nodup:=by decide +kernel
theorem nd18 : (["mixed", "rows", "one", "other"] : List Str).Nodup:=by decide +kernel
theorem nd19 : (["mixed", "pieces", "k", "thing"] : List Str).Nodup:=by decide +kernel
theorem nd20 : (["table", "things", "one", "other"] : List Str).Nodup:=by decide +kernel
theorem nd21 : (["pieces", "upper", "inner", "found", "k", "at"] : List Str).Nodup:=by decide +kernel
theorem nd22 : (["script", "mixed", "table", "pieces", "outer", "inner", "due", "row"] : List Str).Nodup:=by decide +kernel
theorem nd23 : (["script", "mixed", "table", "pieces", "outer", "inner", "due", "one"] : List Str).Nodup:=by decide +kernel
theorem nd24 : (["script", "mixed", "table", "pieces", "outer", "inner", "due", "piece"] : List Str).Nodup:=by decide +kernel
noncomputable def z7B : SS->Option Out:=(z8l (z0v (z0X (z4u (z0d 1)) z2Y (d2 ixD (z0d 0) (z0d 2)))))
noncomputable def z3Y : List D->Option D:=z2z 2 0 z7B
noncomputable def y4S : SS->Option Out:=(z8l (mkL (z0X (z4u (z0d 1)) z2Y (z0j z3Y [(d2 ixD (z0d 0) (z0d 2)),(z0d 1)]))))
noncomputable def z9b : List D->Option D:=z2z 2 0 y4S
noncomputable def z4n : SS->Option Out:=(z5H (z0j y7J [(mkL (z0X (z4u (z0d 2)) z2Y (d2 ixD (d2 ixD (z0d 0) (z0d 1)) (z0d 3))))]))
noncomputable def z0L : List D->Option D:=z2z 3 0 z4n
noncomputable def z3t : SS->Option Out:=(z8l (z0v (z5v (y0t (z0d 0)) (z1t (z0d 2)) (z0d 1))))
noncomputable def z1H : List D->Option D:=z2z 1 0 z3t
noncomputable def z4v : SS->Option Out:=(z8l (z0j z1H [(d2 ixD (z0d 0) (z0d 1))]))
noncomputable def z0M : List D->Option D:=z2z 2 0 z4v
noncomputable def z3L : SS->Option Out:=(z1i (z4p 2 (y3L (z0d 1) (z0d 1)))
 (z1i (z4p 3 (z0v (z0q [(z0d 1)])))
 (z1i (z4h (z1t (z0d 3)) (z1i (z4p 4 (z0v (z0q [])))
 (z1i (frzO 3 (z8C 5 (z4u (z0d 3)) (z8C 6 (z4u (z0j z0M [(z0d 0),(z0d 5)])) (ifO (y7g (z0d 6) (z0d 2)) (z1i (dput 2 (z0d 6) (z0d 5))
 (m0 4 z7P [(z0d 6)])) z3C))))
 (movO 3 4))) 100)
 (y2d 2))))
noncomputable def z2h : List D->Option D:=z2z 2 5 z3L
noncomputable def z6c : SS->Option Out:=(z8l (z0v (z2G z9i [(z0j z2h [(z0d 0),(z0d 1)])])))
noncomputable def z2S : List D->Option D:=z2z 2 0 z6c
noncomputable def z3k : SS->Option Out:=(z8l (z0v (z5v (y0t (z0d 0)) (z1v (d2 eqD (z0d 3) (z0d 1))) (z0d 2))))
noncomputable def z1n : List D->Option D:=z2z 2 0 z3k
noncomputable def y0C : SS->Option Out:=(z1i (z4p 1 (z0v (z0X (z4s (z0j z3z [(z0d 0)])) z2Y (z0j z3z [(z0j z2S [(z0d 0),(z0d 2)])]))))
 (z8l (mkL (z0X (y6J (z0j z3z [(z0d 0)]) (dC (.int 0)) (d1 uNeg (dC (.int 1)))) (z1v (d2 inD (z0d 2) (z0d 1))) (z0j z1n [(z0d 1),(z0d 2)])))))
noncomputable def z5d : List D->Option D:=z2z 1 1 y0C
noncomputable def z3u : SS->Option Out:=(z1i (z4p 3 (z0v (z0X (z4u (z0d 2)) z2Y (d2 ixD (d2 ixD (z0d 0) (z0d 1)) (z0d 4)))))
 (z5H (dOr (z0j y7J [(z0d 3)]) (d1 uNot (z0j anyF [(z0d 3)])))))
noncomputable def z1N : List D->Option D:=z2z 3 1 z3u
noncomputable def z6D : SS->Option Out:=(z8l (z0v (z0X (z4s (z0j z3z [(z0d 0)])) (y5G (z1v (d2 y8a (z0d 2) (z0d 1))) (z6C (z1t (z0j z1N [(z0d 0),(z0d 2),(z0d 1)])))) (z0d 2))))
noncomputable def z1G : List D->Option D:=z2z 2 0 z6D
noncomputable def z1Y : SS->Option Out:=(z5H (d2 eqD (z0j z3z [(z0j z1G [(z0d 0),(z0d 1)])]) (dC (.int 0))))
noncomputable def z0F : List D->Option D:=z2z 2 0 z1Y
noncomputable def z5R : SS->Option Out:=(z1i (z4p 2 (z0v (y1s (z0d 1))))
 (z1i (z4p 3 (z0j z1G [(z0d 0),(z0d 2)]))
 (z1i (z4h (z1t (z0d 3)) (z1i (z4p 2 (z0v (z2G z9C [(mkL (dCat (z0d 2) (z0d 3)))])))
 (z4p 3 (z0j z1G [(z0d 0),(z0d 2)]))) 100)
 (y2d 2))))
noncomputable def z3F : List D->Option D:=z2z 2 2 z5R
noncomputable def z2L : SS->Option Out:=(z5H (d2 eqD (z0j z3z [(z0j z3F [(z0d 0),(mkL (z0q [(z0d 1),(z0d 2)]))])]) (z0j z3z [(z0d 0)])))
noncomputable def z1a : List D->Option D:=z2z 3 0 z2L
noncomputable def z2v : SS->Option Out:=(z8l (z0v (z0X (z4s (z0j z3z [(z0d 0)])) (dOrT (z1v (d2 eqD (z0d 2) (z0d 1))) (z6C (z1t (z0j z1a [(z0d 0),(z0d 1),(z0d 2)])))) (z0d 2))))
noncomputable def z1e : List D->Option D:=z2z 2 0 z2v
noncomputable def z7S : SS->Option Out:=(z1i (z4p 1 (z0j z5d [(z0d 0)]))
 (z1i (ifO (z1v (d2 gtI (z0j z3z [(z0d 1)]) (dC (.int 1)))) (y2d 1) z3C)
 (z1i (z4p 2 (z0v (z0q [])))
 (z1i (z8C 3 (z4s (z0j z3z [(z0d 0)])) (z1i (z4p 4 (z0j z1e [(z0d 0),(z0d 3)]))
 (ifO (z1v (d2 y8a (z0d 4) (z0d 2))) (appO 2 4) z3C)))
 (y2d 2)))))
noncomputable def z4z : List D->Option D:=z2z 1 4 z7S
noncomputable def z5a : SS->Option Out:=(z5H (y8C (dIs "int" (z0d 0)) (y8C (d1 uNot (dIs "bool" (z0d 0))) (z7i leI ltI (dC (.int 0)) (z0d 0) (z0d 1)))))
noncomputable def z2U : List D->Option D:=z2z 2 0 z5a
noncomputable def z1O : SS->Option Out:=(z1i (ifO (z1v (d2 neD (z0j z3z [(z0d 0)]) (z0d 1))) (z5H (dC (.bl false))) z3C)
 (z1i (z4p 2 (dC (.dct [] [])))
 (z1i (z8C 3 (z4u (z0d 0)) (z1i (ifO (dOrT (z6C (z1t (z0j z2U [(z0d 3),(z0d 1)]))) (y7k (z0d 3) (z0d 2))) (z5H (dC (.bl false))) z3C)
 (dput 2 (z0d 3) (dC (.bl true)))))
 (z5H (dC (.bl true))))))
noncomputable def z0U : List D->Option D:=z2z 2 2 z1O
noncomputable def z3p : SS->Option Out:=(z1i (z4p 2 (z0v (z0q [])))
 (z1i (z8C 3 (z4u (z0d 0)) (z1i (ifO (z1v (d2 eqD (z0j z3z [(z0d 3)]) (dC (.int 0)))) (z5q 1 (dC (.str "a piece is empty"))) z3C)
 (y3B 2 (z0d 3))))
 (z1i (ifO (z6C (z1t (z0j z0U [(z0d 2),(z0d 1)]))) (z5q 1 (dC (.str "the pieces do not tell each thing once and nothing else"))) z3C)
 (z1i (z4p 4 (z0v (dRep (mkL (z0q [(dC (.int 0))])) (z0d 1))))
 (z1i (y6Q 5 3 (y0t (z0d 0)) (z8C 6 (z4u (z0d 3)) (st0 4 (z0d 6) (z0d 5))))
 (y2d 4))))))
noncomputable def z2a : List D->Option XO:=y8I 2 5 z3p
noncomputable def z8q : SS->Option Out:=(z1i (y4s (z7l z2a [(z0d 1),(z0j z3z [(z0d 0)])]))
 (z1i (ifO (z6C (z1t (z0j y7J [(mkL (z0X (z4u (z0d 1)) z2Y (z0j z0F [(z0d 0),(z0d 2)])))]))) (z5q 1 (dC (.str "a piece does not stand together"))) z3C)
 (z8l (z0j z9b [(z0d 0),(mkL (z0X (z4u (z0d 1)) z2Y (d2 ixD (z0d 2) (dC (.int 0)))))]))))
noncomputable def z4S : List D->Option XO:=y8I 2 0 z8q
noncomputable def z8a : SS->Option Out:=(z5H (y8C (d2 ixD (d2 ixD (z0d 0) (z0d 1)) (z0d 2)) (z0j z0L [(z0d 0),(z0d 1),(z0j z0M [(z0d 0),(z0d 2)])])))
noncomputable def z4D : List D->Option D:=z2z 3 0 z8a
noncomputable def z3N : SS->Option Out:=(z5H (z0j anyF [(mkL (z0X (z4s (z0j z3z [(z0d 0)])) z2Y (z0j z4D [(z0d 0),(z0d 2),(z0d 1)])))]))
noncomputable def z2k : List D->Option D:=z2z 2 0 z3N
noncomputable def z4o : SS->Option Out:=(z8l (z0v (z0X (z4s (z0j z3z [(z0d 0)])) (z6C (z1t (z0j z2k [(z0d 0),(z0d 1)]))) (z0d 1))))
noncomputable def z1j : List D->Option D:=z2z 1 0 z4o
noncomputable def z3S : SS->Option Out:=(z1i (ifO (z1v (d2 eqD (z0j z3z [(z0d 1)]) (dC (.int 0)))) (z5H (dC (.bl false))) z3C)
 (z5H (z0j y7J [(mkL (z5v (y0t (z0d 1)) z2Y (z0j z0L [(z0d 0),(z0d 3),(mkL (dCut (z0d 1) (y6z (d2 y2S (z0d 2) (dC (.int 1)))) y0T))])))])))
noncomputable def z2P : List D->Option D:=z2z 2 0 z3S
noncomputable def z6r : SS->Option Out:=(z8l (z0v (z0X (z4s (z0j z3z [(z0d 0)])) (z1t (z0j z0L [(z0d 0),(z0d 2),(z0d 1)])) (z0d 2))))
noncomputable def z2g : List D->Option D:=z2z 2 0 z6r
noncomputable def z8f : SS->Option Out:=(z5H (y8C (z0j z2P [(z0d 0),(z0d 1)]) (d2 eqD (z0j z3z [(z0j z2g [(z0d 0),(z0d 1)])]) (dC (.int 0)))))
noncomputable def z3R : List D->Option D:=z2z 2 0 z8f
noncomputable def z2e (mR : List D->Option D) : SS->Option Out:=(z1i (ifO (z6C (z1t (z0d 2))) (ret1 1) z3C)
 (z1i (z4p 3 (z0v (z0q [])))
 (z1i (z8C 4 (z4u (z0d 2)) (y3j 3 (z6e mR (z0d 0) (z0v (dCat (z0d 1) (mkL (z0q [(z0d 4)])))) [(mkL (z0X (z4u (z0d 2)) (z1t (d2 ixD (d2 ixD (z0d 0) (z0d 4)) (z0d 5))) (z0d 5)))])))
 (y2d 3))))
noncomputable def z1f : Nat->List D->Option D
 | 0=>y0H 3 2 fun _=>none
 | n + 1=>y0H 3 2 (z2e (z1f n))
noncomputable def z1w : List D->Option D:=z1f 12
noncomputable def z3w : SS->Option Out:=(z1i (y7A 2 (z6e z1w (z0d 0) (z0v (z0q [(z0d 1)])) [(z0j z0M [(z0d 0),(z0d 1)])]))
 (z1i (z8C 3 (z4u (z0d 2)) (ifO (z1t (z0j z3R [(z0d 0),(z0d 3)])) (retS (mkT (z0q [(dC (.str "chain")),(z0d 3)]))) z3C))
 (retS (mkT (z0q [(dC (.str "beaten")),(mkL (z0X (z4u (z0d 2)) z2Y (mkT (z0q [(z0d 4),(d2 ixD (z0j z2g [(z0d 0),(z0d 4)]) (dC (.int 0)))]))))])))))
noncomputable def z1o : List D->Option D:=z2z 2 2 z3w
noncomputable def z7C : SS->Option Out:=(z8l (z0v (z0X (z4s (z0j z3z [(z0d 0)])) (z1v (d2 eqD (d2 ixD (z0j z1o [(z0d 0),(z0d 1)]) (dC (.int 0))) (dC (.str "chain")))) (z0d 1))))
noncomputable def z2E : List D->Option D:=z2z 1 0 z7C
noncomputable def z2d : SS->Option Out:=(z1i (ifO (z1v (d2 ltI (z0d 1) (z0j z3z [(z0d 0)]))) (z5H (d2 ixD (z0d 0) (z0d 1))) z3C)
 (z5H (dC (.int 0))))
noncomputable def z0p : List D->Option D:=z2z 2 0 z2d
noncomputable def z2u : SS->Option Out:=(z1i (z4p 2 (mkL (z0X (z4s (z0d 1)) z2Y (z0v (dRep (mkL (z0q [(dC (.bl false))])) (z0d 1))))))
 (z1i (y3d 3 (d2 z9w (d2 mulI (z0d 0) (dC (.int 48271))) (dC (.int 2147483647))))
 (z1i (z8C 4 (z4s (z0d 1)) (z8C 5 (y7Y (d2 y2S (z0d 4) (dC (.int 1))) (z0d 1)) (z1i (st1 2 (z0d 4) (z0d 5) (d2 eqD (d2 z9w (z0d 3) (dC (.int 2))) (dC (.int 0))))
 (z1i (st1 2 (z0d 5) (z0d 4) (d2 eqD (d2 z9w (z0d 3) (dC (.int 2))) (dC (.int 1))))
 (y3d 3 (d2 y5K (z0d 3) (dC (.int 2))))))))
 (y2d 2))))
noncomputable def z0Q : List D->Option D:=z2z 2 4 z2u
noncomputable def z3E : SS->Option Out:=(z1i (y3d 1 (d2 y2S (dC (.int 1)) (d2 z9w (z0j z0p [(z0d 0),(dC (.int 0))]) (dC (.int 4)))))
 (z1i (ifO (z1v (d2 eqD (d2 z9w (d2 y5K (z0j z0p [(z0d 0),(dC (.int 0))]) (dC (.int 4))) (dC (.int 4))) (dC (.int 1)))) (y3d 1 (d2 y2S (z0d 1) (dC (.int 4)))) z3C)
 (z1i (z4p 2 (z0j z0Q [(z0j z0p [(z0d 0),(dC (.int 1))]),(z0d 1)]))
 (z1i (z4p 3 (z0v (z0q [])))
 (z1i (z4p 4 (z0v (z0q [])))
 (z1i (forI 5 (dIv1 (z0j z3z [(z0d 2)])) (z1i (z4p 6 (z0j z0p [(z0d 0),(d2 y2S (dC (.int 2)) (z0d 5))]))
 (z1i (y3d 7 (d2 y2S (d2 subI (d2 subI (dC (.int 9)) (z0j z3z [(z0d 4)])) (z0j z3z [(z0d 2)])) (z0d 5)))
 (z1i (y3d 8 (d2 ixD (mkL (z0q [(dC (.int 1)),(z0j minF [(dC (.int 3)),(z0d 7)]),(d2 y2S (dC (.int 1)) (d2 z9w (d2 y5K (z0d 6) (dC (.int 4))) (z0d 7)))])) (z0j minF [(d2 z9w (z0d 6) (dC (.int 4))),(dC (.int 2))])))
 (z1i (y0W 3 (z0j z0Q [(d2 y5K (z0d 6) (dC (.int 32))),(z0d 8)]))
 (z8C 9 (z4s (z0d 8)) (z1i (y3d 10 (d2 z9w (z0j z0p [(z0d 0),(d2 y2S (dC (.int 6)) (z0j z3z [(z0d 4)]))]) (d2 y2S (z0j z3z [(z0d 4)]) (dC (.int 1)))))
 (m0 4 insF [(z0d 10),(mkT (z0q [(z0d 5),(z0d 9)]))]))))))))
 (ret3 2 3 4)))))))
noncomputable def z1B : List D->Option D:=z2z 1 10 z3E
noncomputable def z2B : SS->Option Out:=(z1i (ifO (z1v (d2 eqD (d2 ixD (z0d 1) (dC (.int 0))) (d2 ixD (z0d 2) (dC (.int 0))))) (z5H (d2 ixD (d2 ixD (d2 ixD (d2 ixD (z0d 0) (dC (.int 1))) (d2 ixD (z0d 1) (dC (.int 0)))) (d2 ixD (z0d 1) (dC (.int 1)))) (d2 ixD (z0d 2) (dC (.int 1))))) z3C)
 (z5H (d2 ixD (d2 ixD (d2 ixD (z0d 0) (dC (.int 0))) (d2 ixD (z0d 1) (dC (.int 0)))) (d2 ixD (z0d 2) (dC (.int 0))))))
noncomputable def z2j : List D->Option D:=z2z 3 0 z2B
noncomputable def z3J : SS->Option Out:=(z1i (z4p 1 (z0v (z0q [])))
 (z1i (z8C 2 (z4u (d2 ixD (z0d 0) (dC (.int 2)))) (y0W 1 (mkL (z0X (z4u (d2 ixD (z0d 0) (dC (.int 2)))) z2Y (z0j z2j [(z0d 0),(z0d 2),(z0d 3)])))))
 (y2d 1)))
noncomputable def z2i : List D->Option D:=z2z 1 2 z3J
noncomputable def z2Z : SS->Option Out:=(z1i (z4p 1 (z0v (z0q [])))
 (z1i (forI 2 (dIv1 (z0j z3z [(d2 ixD (z0d 0) (dC (.int 0)))])) (y0W 1 (z0v (z0X (z4s (z0j z3z [(d2 ixD (z0d 0) (dC (.int 2)))])) (z1v (d2 eqD (d2 ixD (d2 ixD (d2 ixD (z0d 0) (dC (.int 2))) (z0d 3)) (dC (.int 0))) (z0d 2))) (z0d 3)))))
 (y2d 1)))
noncomputable def z1J : List D->Option D:=z2z 1 2 z2Z
noncomputable def z4w : SS->Option Out:=(z8l (mkL (z0X (z4u (z0d 1)) z2Y (z0v (z0X (z4u (z0d 1)) z2Y (d2 ixD (d2 ixD (z0d 0) (z0d 2)) (z0d 3)))))))
noncomputable def z2c : List D->Option D:=z2z 2 0 z4w
noncomputable def z3m : SS->Option Out:=(z1i (z4p 3 (z0v (z0q [])))
 (z1i (z8C 4 (z4u (z0d 1)) (z4p 3 (z0v (dCat (z0d 3) (mkL (z0X (z4u (d2 ixD (z0d 2) (z0d 4))) z2Y (d2 ixD (d2 ixD (z0d 0) (z0d 4)) (z0d 5))))))))
 (z8l (z0v (z2G z9C [(z0d 3)])))))
noncomputable def z0Z : List D->Option D:=z2z 3 2 z3m
noncomputable def g_law : SS->Option Out:=(z1i (y7A 1 (z0j z1B [(z0d 0)]))
 (z1i (y7A 2 (z0j z2i [(z0d 1)]))
 (z1i (z8C 3 (z4u (mkL (z0q [(z0j z1J [(z0d 1)]),(z0j z4z [(mkL (z0X (z4u (z0d 2)) z2Y (z0v (z2G z7r [(z0d 7)]))))])]))) (z1i (y7A 4 (y1k z4S [(z0d 2),(mkL (z0X (z4u (z0d 3)) z2Y (z0v (z2G z7r [(z0d 7)]))))]))
 (z1i (y7A 5 (mkL (z0X (z4u (z0d 3)) z2Y (z0j z2c [(z0d 2),(z0d 7)]))))
 (z1i (z4p 6 (z0j z0Z [(z0d 3),(z0j z1j [(z0d 4)]),(mkL (z0X (z4u (z0d 5)) z2Y (z0j z1j [(z0d 7)])))]))
 (z1i (ifO (z1v (d2 neD (z0j z1j [(z0d 2)]) (z0d 6))) (z5H (dC (.bl false))) z3C)
 (z1i (z4p 6 (z0j z0Z [(z0d 3),(z0j z2E [(z0d 4)]),(mkL (z0X (z4u (z0d 5)) z2Y (z0j z2E [(z0d 7)])))]))
 (ifO (z1v (d2 neD (z0j z2E [(z0d 2)]) (z0d 6))) (z5H (dC (.bl false))) z3C)))))))
 (z5H (dC (.bl true))))))
noncomputable def y2t : List D->Option D:=z2z 1 6 g_law
structure Txt (mg : Str->Option Value) : Prop where
 b_all : mg "all" = none
 b_enumerate : mg "enumerate" = none
 b_sorted : mg "sorted" = none
 b_range : mg "range" = none
 b_len : mg "len" = none
 b_any : mg "any" = none
 b_set : mg "set" = none
 b_int : mg "int" = none
 b_isinstance : mg "isinstance" = none
 b_bool : mg "bool" = none
 b_min : mg "min" = none
 b_list : mg "list" = none
structure Cls (K : aa) (mg : Str->Option Value) (base : Heap) (cl : Nat->Value) : Prop where
 o_BadParts : ∃ C,cl 1 = .ref C∧OwnCls "BadParts" C bmVE "ValueError.__new__" mg base∧au K mainGlobals "BadParts" = some (some (.ref C))∧True
section
variable {P : Program} {w : World} {K : aa} {mg : Str->Option Value} {base : Heap} {cl : Nat->Value}
theorem y3E : FnScope y6c z8o (z0b z4b):=⟨rfl,rfl,rfl,by decide +kernel,rfl,by decide +kernel,by decide +kernel⟩
theorem y5E {f : Addr} {fd : FuncData} (F : Fun K "picked" "picked" z4b f fd) (hm : mg "picked" = some (.ref f)) (hb : Binds K fd z8o []) (T : Txt mg) : DefOk P w K mg base 1 "picked" (spN K z3Y):=
 z4e (k:=0) (g:=z7B) F hm hb y3E rfl rfl fun cdv A outer s H E hr=>
  (z0i (z2y (z4i (z1L (N':=["row", "things", "other"])  rfl ⟨rfl,rfl,rfl,rfl,rfl⟩ (n:=2) rfl (z0A (z0g 1 (pv 1))) (fun _ _ _ _ _=>z0k (i:=2) nd0 rfl (Or.inl rfl)) (fun _ _ _ _ _=>z0x) (fun _ _ _ _ _=>(z0O (z0g 0 (pv 0)) (z0g 2 (pv 2))))))))
theorem sc_part : FnScope N_part y4y (z0b z7m):=⟨rfl,rfl,rfl,by decide +kernel,rfl,by decide +kernel,by decide +kernel⟩
theorem ok_part {f : Addr} {fd : FuncData} (F : Fun K "part" "part" z7m f fd) (hm : mg "part" = some (.ref f)) (hb : Binds K fd y4y []) (T : Txt mg) (G_picked : DefOk P w K mg base 1 "picked" (spN K z3Y)) : DefOk P w K mg base 2 "part" (spN K z9b):=
 z4e (k:=1) (g:=y4S) F hm hb sc_part rfl rfl fun cdv A outer s H E hr=>
  (z0i (z2y (z2J (N':=["table", "things", "one"])  rfl ⟨rfl,rfl,rfl,rfl,rfl⟩ (n:=2) rfl (z0A (z0g 1 (pv 1))) (fun _ _ _ _ _=>z0k (i:=2) nd1 rfl (Or.inl rfl)) (fun _ _ _ _ _=>z0x) (fun _ _ _ _ _=>(z0h G_picked (hr.mono (by decide)) rfl (z0a (z0O (z0g 0 (pv 0)) (z0g 2 (pv 2))) (z0a (z0g 1 (pv 1)) z0c)))))))
theorem z9O : FnScope y0O z4t (z0b z1S):=⟨rfl,rfl,rfl,by decide +kernel,rfl,by decide +kernel,by decide +kernel⟩
theorem z9e {f : Addr} {fd : FuncData} (F : Fun K "beats_all" "beats_all" z1S f fd) (hm : mg "beats_all" = some (.ref f)) (hb : Binds K fd z4t []) (T : Txt mg) : DefOk P w K mg base 1 "beats_all" (spN K z0L):=
 z4e (k:=0) (g:=z4n) F hm hb z9O rfl rfl fun cdv A outer s H E hr=>
  (z0i (z1z (y1t rfl rfl T.b_all (y1Q (z1L (N':=["table", "one", "things", "other"])  rfl ⟨rfl,rfl,rfl,rfl,rfl⟩ (n:=3) rfl (z0A (z0g 2 (pv 2))) (fun _ _ _ _ _=>z0k (i:=3) nd2 rfl (Or.inl rfl)) (fun _ _ _ _ _=>z0x) (fun _ _ _ _ _=>(z0O (z0O (z0g 0 (pv 0)) (z0g 1 (pv 1))) (z0g 3 (pv 3)))))))))
theorem z6N : FnScope z8b z3j (z0b z1m):=⟨rfl,rfl,rfl,by decide +kernel,rfl,by decide +kernel,by decide +kernel⟩
theorem z6I {f : Addr} {fd : FuncData} (F : Fun K "places_true" "places_true" z1m f fd) (hm : mg "places_true" = some (.ref f)) (hb : Binds K fd z3j []) (T : Txt mg) : DefOk P w K mg base 1 "places_true" (spN K z1H):=
 z4e (k:=0) (g:=z3t) F hm hb z6N rfl rfl fun cdv A outer s H E hr=>
  (z0i (z2y (z4i (z8c (N':=["marks", "place", "mark"])  rfl ⟨rfl,rfl,rfl,rfl,rfl⟩ (n:=1) rfl (z5K rfl T.b_enumerate (z0g 0 (pv 0))) (fun _ _ _ _ _=>y5j rfl (z0k (i:=1) nd3 rfl (Or.inl rfl)) (z0k (i:=2) nd3 rfl (Or.inl rfl))) (fun _ _ _ _ _=>z1u (z0V (z0g 2 (pv 2)))) (fun _ _ _ _ _=>(z0g 1 (pv 1)))))))
theorem z8U : FnScope z9U z4l (z0b z1T):=⟨rfl,rfl,rfl,by decide +kernel,rfl,by decide +kernel,by decide +kernel⟩
theorem z9N {f : Addr} {fd : FuncData} (F : Fun K "beaten_by" "beaten_by" z1T f fd) (hm : mg "beaten_by" = some (.ref f)) (hb : Binds K fd z4l []) (T : Txt mg) (G_places_true : DefOk P w K mg base 1 "places_true" (spN K z1H)) : DefOk P w K mg base 2 "beaten_by" (spN K z0M):=
 z4e (k:=1) (g:=z4v) F hm hb z8U rfl rfl fun cdv A outer s H E hr=>
  (z0i (z2y (z0h G_places_true (hr.mono (by decide)) rfl (z0a (z0O (z0g 0 (pv 0)) (z0g 1 (pv 1))) z0c))))
theorem sc_steps_from : FnScope z8F z3D (z0b z1E):=⟨rfl,rfl,rfl,by decide +kernel,rfl,by decide +kernel,by decide +kernel⟩
theorem z7v {f : Addr} {fd : FuncData} (F : Fun K "steps_from" "steps_from" z1E f fd) (hm : mg "steps_from" = some (.ref f)) (hb : Binds K fd z3D []) (T : Txt mg) (G_beaten_by : DefOk P w K mg base 2 "beaten_by" (spN K z0M)) : DefOk P w K mg base 3 "steps_from" (spN K z2h):=
 z4e (k:=2) (g:=z3L) F hm hb sc_steps_from rfl rfl fun cdv A outer s H E hr=>
  (z0f (z0W (z1d (i:=2) sc_steps_from.nd rfl (Or.inl rfl) (y5W (z0g 1 (pv 1)) (z0g 1 (pv 1)))))
   (z0f (z0W (z1d (i:=3) sc_steps_from.nd rfl (Or.inl rfl) (z4i (z1h (z0a (z0g 1 (pv 1)) z0c)))))
   (z0f (y2Z 100 PassesOwn.never (z0V (z0g 3 (pv 3))) (z0f (z0W (z1d (i:=4) sc_steps_from.nd rfl (Or.inl rfl) (z4i (z1h z0c))))
   (z0f (s_frz 3 (z4O PassesOwn.never rfl (z0A (z0g 3 (pv 3))) (z0k (i:=5) sc_steps_from.nd rfl (Or.inl rfl)) (z0i (z4O PassesOwn.never rfl (z0A (z2X (z0h G_beaten_by (hr.mono (by decide)) rfl (z0a (z0g 0 (pv 0)) (z0a (z0g 5 (pv 5)) z0c))))) (z0k (i:=6) sc_steps_from.nd rfl (Or.inl rfl)) (z0i (z9S (pt_dnin hr.units (z0g 6 (pv 6)) (z0g 2 (pv 2))) (z0f (y8o hr.units (pv 2) (z0g 6 (pv 6)) (z0g 5 (pv 5)))
   (z0i (s_m0 PySem.F.slot_list_append PySem.F.type_list_append z4T z5Y (pv 4) (z0a (z0g 6 (pv 6)) z0c)))) z2p))))))
   (z0i (s_mov (by decide) (z1d (i:=3) sc_steps_from.nd rfl (Or.inl rfl) (pv 4)))))))
   (z0i (z4G (pv 2))))))
theorem y2i : FnScope y4X z5Q (z0b z2V):=⟨rfl,rfl,rfl,by decide +kernel,rfl,by decide +kernel,by decide +kernel⟩
theorem y2G {f : Addr} {fd : FuncData} (F : Fun K "reached" "reached" z2V f fd) (hm : mg "reached" = some (.ref f)) (hb : Binds K fd z5Q []) (T : Txt mg) (G_steps_from : DefOk P w K mg base 3 "steps_from" (spN K z2h)) : DefOk P w K mg base 4 "reached" (spN K z2S):=
 z4e (k:=3) (g:=z6c) F hm hb y2i rfl rfl fun cdv A outer s H E hr=>
  (z0i (z2y (z4i (y2A rfl rfl T.b_sorted (z2X (z0h G_steps_from (hr.mono (by decide)) rfl (z0a (z0g 0 (pv 0)) (z0a (z0g 1 (pv 1)) z0c))))))))
theorem z6K : FnScope z7G z3d (z0b z1l):=⟨rfl,rfl,rfl,by decide +kernel,rfl,by decide +kernel,by decide +kernel⟩
theorem z6H {f : Addr} {fd : FuncData} (F : Fun K "places_with" "places_with" z1l f fd) (hm : mg "places_with" = some (.ref f)) (hb : Binds K fd z3d []) (T : Txt mg) : DefOk P w K mg base 1 "places_with" (spN K z1n):=
 z4e (k:=0) (g:=z3k) F hm hb z6K rfl rfl fun cdv A outer s H E hr=>
  (z0i (z2y (z4i (z8c (N':=["counts", "wanted", "place", "count"])  rfl ⟨rfl,rfl,rfl,rfl,rfl⟩ (n:=2) rfl (z5K rfl T.b_enumerate (z0g 0 (pv 0))) (fun _ _ _ _ _=>y5j rfl (z0k (i:=2) nd4 rfl (Or.inl rfl)) (z0k (i:=3) nd4 rfl (Or.inl rfl))) (fun _ _ _ _ _=>z1u (z8M hr.units (z0g 3 (pv 3)) (z0g 1 (pv 1)))) (fun _ _ _ _ _=>(z0g 2 (pv 2)))))))
theorem sc_rings : FnScope N_rings y0D (z0b z4Z):=⟨rfl,rfl,rfl,by decide +kernel,rfl,by decide +kernel,by decide +kernel⟩
theorem y6x {f : Addr} {fd : FuncData} (F : Fun K "rings" "rings" z4Z f fd) (hm : mg "rings" = some (.ref f)) (hb : Binds K fd y0D []) (T : Txt mg) (G_reached : DefOk P w K mg base 4 "reached" (spN K z2S)) (G_places_with : DefOk P w K mg base 1 "places_with" (spN K z1n)) : DefOk P w K mg base 5 "rings" (spN K z5d):=
 z4e (k:=4) (g:=y0C) F hm hb sc_rings rfl rfl fun cdv A outer s H E hr=>
  (z0f (z0W (z1d (i:=1) sc_rings.nd rfl (Or.inr rfl) (z4i (z1L (N':=["table", "counts", "one"])  rfl ⟨rfl,rfl,rfl,rfl,rfl⟩ (n:=2) rfl (z2n rfl T.b_range (z0T rfl T.b_len (z0g 0 (pv 0)))) (fun _ _ _ _ _=>z0k (i:=2) nd6 rfl (Or.inl rfl)) (fun _ _ _ _ _=>z0x) (fun _ _ _ _ _=>(z0T rfl T.b_len (z2X (z0h G_reached (hr.mono (by decide)) rfl (z0a (z0g 0 (pv 0)) (z0a (z0g 2 (pv 2)) z0c))))))))))
   (z0i (z2y (z2J (N':=["table", "counts", "count"])  rfl ⟨rfl,rfl,rfl,rfl,rfl⟩ (n:=2) rfl (pi_rngN rfl T.b_range (z0T rfl T.b_len (z0g 0 (pv 0))) z0n (pd_neg z0n)) (fun _ _ _ _ _=>z0k (i:=2) nd5 rfl (Or.inl rfl)) (fun _ _ _ _ _=>z1u (y7u hr.units (z0g 2 (pv 2)) (z0g 1 (pv 1)))) (fun _ _ _ _ _=>(z0h G_places_with (hr.mono (by decide)) rfl (z0a (z0g 1 (pv 1)) (z0a (z0g 2 (pv 2)) z0c))))))))
theorem sc_sees_as_one : FnScope z7F z3n (z0b z1p):=⟨rfl,rfl,rfl,by decide +kernel,rfl,by decide +kernel,by decide +kernel⟩
theorem z6O {f : Addr} {fd : FuncData} (F : Fun K "sees_as_one" "sees_as_one" z1p f fd) (hm : mg "sees_as_one" = some (.ref f)) (hb : Binds K fd z3n []) (T : Txt mg) : DefOk P w K mg base 1 "sees_as_one" (spN K z1N):=
 z4e (k:=0) (g:=z3u) F hm hb sc_sees_as_one rfl rfl fun cdv A outer s H E hr=>
  (z0f (z0W (PAsg.imp (y8c (i:=3) (N':=["table", "other", "things", "marks", "thing"]) sc_sees_as_one.nd rfl rfl rfl ⟨rfl,rfl,rfl,rfl,rfl⟩ (n:=4) rfl (z0A (z0g 2 (pv 2))) (fun _ _ _ _ _=>z0k (i:=4) nd7 rfl (Or.inl rfl)) (fun _ _ _ _ _=>z0x) (fun _ _ _ _ _=>(z0O (z0O (z0g 0 (pv 0)) (z0g 1 (pv 1))) (z0g 4 (pv 4))))) iNF))
   (z0i (z1z (pd_or (y1t rfl rfl T.b_all (z0g 3 (pv 3))) (y1p (y8A (y8D rfl rfl T.b_any (z0g 3 (pv 3)))))))))
theorem y2k : FnScope y4e z6d (z0b z2R):=⟨rfl,rfl,rfl,by decide +kernel,rfl,by decide +kernel,by decide +kernel⟩
theorem y2C {f : Addr} {fd : FuncData} (F : Fun K "parting" "parting" z2R f fd) (hm : mg "parting" = some (.ref f)) (hb : Binds K fd z6d []) (T : Txt mg) (G_sees_as_one : DefOk P w K mg base 1 "sees_as_one" (spN K z1N)) : DefOk P w K mg base 2 "parting" (spN K z1G):=
 z4e (k:=1) (g:=z6D) F hm hb y2k rfl rfl fun cdv A outer s H E hr=>
  (z0i (z2y (z4i (z1L (N':=["table", "things", "other"])  rfl ⟨rfl,rfl,rfl,rfl,rfl⟩ (n:=2) rfl (z2n rfl T.b_range (z0T rfl T.b_len (z0g 0 (pv 0)))) (fun _ _ _ _ _=>z0k (i:=2) nd8 rfl (Or.inl rfl)) (fun _ _ _ _ _=>z1u (PW.pt (pw_andD (y8k hr.units (z0g 2 (pv 2)) (z0g 1 (pv 1))) (y6W (z4k (z0V (z2X (z0h G_sees_as_one (hr.mono (by decide)) rfl (z0a (z0g 0 (pv 0)) (z0a (z0g 2 (pv 2)) (z0a (z0g 1 (pv 1)) z0c))))))))))) (fun _ _ _ _ _=>(z0g 2 (pv 2)))))))
theorem z4L : FnScope z5l z1W (z0b z0G):=⟨rfl,rfl,rfl,by decide +kernel,rfl,by decide +kernel,by decide +kernel⟩
theorem z4Q {f : Addr} {fd : FuncData} (F : Fun K "stands_together" "stands_together" z0G f fd) (hm : mg "stands_together" = some (.ref f)) (hb : Binds K fd z1W []) (T : Txt mg) (G_parting : DefOk P w K mg base 2 "parting" (spN K z1G)) : DefOk P w K mg base 3 "stands_together" (spN K z0F):=
 z4e (k:=2) (g:=z1Y) F hm hb z4L rfl rfl fun cdv A outer s H E hr=>
  (z0i (z1z (y5C hr.units (z0T rfl T.b_len (z2X (z0h G_parting (hr.mono (by decide)) rfl (z0a (z0g 0 (pv 0)) (z0a (z0g 1 (pv 1)) z0c))))) z0n)))
theorem sc_closure : FnScope y5y z6x (z0b z2W):=⟨rfl,rfl,rfl,by decide +kernel,rfl,by decide +kernel,by decide +kernel⟩
theorem y2L {f : Addr} {fd : FuncData} (F : Fun K "closure" "closure" z2W f fd) (hm : mg "closure" = some (.ref f)) (hb : Binds K fd z6x []) (T : Txt mg) (G_parting : DefOk P w K mg base 2 "parting" (spN K z1G)) : DefOk P w K mg base 3 "closure" (spN K z3F):=
 z4e (k:=2) (g:=z5R) F hm hb sc_closure rfl rfl fun cdv A outer s H E hr=>
  (z0f (z0W (z1d (i:=2) sc_closure.nd rfl (Or.inl rfl) (z4i (y2q rfl rfl T.b_sorted rfl T.b_set (z0g 1 (pv 1))))))
   (z0f (z0W (z1d (i:=3) sc_closure.nd rfl (Or.inl rfl) (z0h G_parting (hr.mono (by decide)) rfl (z0a (z0g 0 (pv 0)) (z0a (z0g 2 (pv 2)) z0c)))))
   (z0f (y2Z 100 PassesOwn.never (z0V (z0g 3 (pv 3))) (z0f (z0W (z1d (i:=2) sc_closure.nd rfl (Or.inl rfl) (z4i (z9d rfl T.b_sorted (y1Q (y3c (z0g 2 (pv 2)) (z0g 3 (pv 3))))))))
   (z0i (z0W (z1d (i:=3) sc_closure.nd rfl (Or.inl rfl) (z0h G_parting (hr.mono (by decide)) rfl (z0a (z0g 0 (pv 0)) (z0a (z0g 2 (pv 2)) z0c))))))))
   (z0i (z4G (pv 2))))))
theorem z6q : FnScope z6E z2H (z0b z1b):=⟨rfl,rfl,rfl,by decide +kernel,rfl,by decide +kernel,by decide +kernel⟩
theorem z6p {f : Addr} {fd : FuncData} (F : Fun K "leads_to_all" "leads_to_all" z1b f fd) (hm : mg "leads_to_all" = some (.ref f)) (hb : Binds K fd z2H []) (T : Txt mg) (G_closure : DefOk P w K mg base 3 "closure" (spN K z3F)) : DefOk P w K mg base 4 "leads_to_all" (spN K z1a):=
 z4e (k:=3) (g:=z2L) F hm hb z6q rfl rfl fun cdv A outer s H E hr=>
  (z0i (z1z (y5C hr.units (z0T rfl T.b_len (z2X (z0h G_closure (hr.mono (by decide)) rfl (z0a (z0g 0 (pv 0)) (z0a (y1Q (z1h (z0a (z0g 1 (pv 1)) (z0a (z0g 2 (pv 2)) z0c)))) z0c))))) (z0T rfl T.b_len (z0g 0 (pv 0))))))
theorem z5A : FnScope z6B z2w (z0b z0R):=⟨rfl,rfl,rfl,by decide +kernel,rfl,by decide +kernel,by decide +kernel⟩
theorem z5x {f : Addr} {fd : FuncData} (F : Fun K "greatest_with" "greatest_with" z0R f fd) (hm : mg "greatest_with" = some (.ref f)) (hb : Binds K fd z2w []) (T : Txt mg) (G_leads_to_all : DefOk P w K mg base 4 "leads_to_all" (spN K z1a)) : DefOk P w K mg base 5 "greatest_with" (spN K z1e):=
 z4e (k:=4) (g:=z2v) F hm hb z5A rfl rfl fun cdv A outer s H E hr=>
  (z0i (z2y (z4i (z1L (N':=["table", "thing", "other"])  rfl ⟨rfl,rfl,rfl,rfl,rfl⟩ (n:=2) rfl (z2n rfl T.b_range (z0T rfl T.b_len (z0g 0 (pv 0)))) (fun _ _ _ _ _=>z0k (i:=2) nd9 rfl (Or.inl rfl)) (fun _ _ _ _ _=>z1u (PW.pt (y8z (z8M hr.units (z0g 2 (pv 2)) (z0g 1 (pv 1))) (y5u (z4k (z0V (z2X (z0h G_leads_to_all (hr.mono (by decide)) rfl (z0a (z0g 0 (pv 0)) (z0a (z0g 1 (pv 1)) (z0a (z0g 2 (pv 2)) z0c))))))))))) (fun _ _ _ _ _=>(z0g 2 (pv 2)))))))
theorem sc_parts : FnScope N_parts y0P (z0b z5h):=⟨rfl,rfl,rfl,by decide +kernel,rfl,by decide +kernel,by decide +kernel⟩
theorem y6T {f : Addr} {fd : FuncData} (F : Fun K "parts" "parts" z5h f fd) (hm : mg "parts" = some (.ref f)) (hb : Binds K fd y0P []) (T : Txt mg) (G_rings : DefOk P w K mg base 5 "rings" (spN K z5d)) (G_greatest_with : DefOk P w K mg base 5 "greatest_with" (spN K z1e)) : DefOk P w K mg base 6 "parts" (spN K z4z):=
 z4e (k:=5) (g:=z7S) F hm hb sc_parts rfl rfl fun cdv A outer s H E hr=>
  (z0f (z0W (z1d (i:=1) sc_parts.nd rfl (Or.inl rfl) (z0h G_rings (hr.mono (by decide)) rfl (z0a (z0g 0 (pv 0)) z0c))))
   (z0f (z9S (pt_gt (z0T rfl T.b_len (z0g 1 (pv 1))) z0n) (z0i (z4G (pv 1))) z2p)
   (z0f (z0W (z1d (i:=2) sc_parts.nd rfl (Or.inl rfl) (z4i (z1h z0c))))
   (z0f (z4O PassesOwn.never rfl (z2n rfl T.b_range (z0T rfl T.b_len (z0g 0 (pv 0)))) (z0k (i:=3) sc_parts.nd rfl (Or.inl rfl)) (z0f (z0W (z1d (i:=4) sc_parts.nd rfl (Or.inl rfl) (z0h G_greatest_with (hr.mono (by decide)) rfl (z0a (z0g 0 (pv 0)) (z0a (z0g 3 (pv 3)) z0c)))))
   (z0i (z9S (y8k hr.units (z0g 4 (pv 4)) (z0g 2 (pv 2))) (z0i (s_appO (by decide) (pv 2) (pv 4))) z2p))))
   (z0i (z4G (pv 2)))))))
theorem y0x : FnScope y2l z5n (z0b z2t):=⟨rfl,rfl,rfl,by decide +kernel,rfl,by decide +kernel,by decide +kernel⟩
theorem y0r {f : Addr} {fd : FuncData} (F : Fun K "is_thing" "is_thing" z2t f fd) (hm : mg "is_thing" = some (.ref f)) (hb : Binds K fd z5n []) (T : Txt mg) : DefOk P w K mg base 1 "is_thing" (spN K z2U):=
 z4e (k:=0) (g:=z5a) F hm hb y0x rfl rfl fun cdv A outer s H E hr=>
  (z0i (z1z (y1d (y7G rfl T.b_int rfl T.b_isinstance (z0g 0 (pv 0))) (y1d (y8A (y4Y rfl T.b_bool rfl T.b_isinstance (z0g 0 (pv 0)))) (y1p (y7q op_le op_lt z5G z5G z0n (z0g 0 (pv 0)) (z0g 1 (pv 1))))))))
theorem sc_tells_each_once : FnScope z5i z1R (z0b z0E):=⟨rfl,rfl,rfl,by decide +kernel,rfl,by decide +kernel,by decide +kernel⟩
theorem z4N {f : Addr} {fd : FuncData} (F : Fun K "tells_each_once" "tells_each_once" z0E f fd) (hm : mg "tells_each_once" = some (.ref f)) (hb : Binds K fd z1R []) (T : Txt mg) (G_is_thing : DefOk P w K mg base 1 "is_thing" (spN K z2U)) : DefOk P w K mg base 2 "tells_each_once" (spN K z0U):=
 z4e (k:=1) (g:=z1O) F hm hb sc_tells_each_once rfl rfl fun cdv A outer s H E hr=>
  (z0f (z9S (pt_ne hr.units (z0T rfl T.b_len (z0g 0 (pv 0))) (z0g 1 (pv 1))) (z0i (z1z z7V)) z2p)
   (z0f (z0W (z1d (i:=2) sc_tells_each_once.nd rfl (Or.inl rfl) pn_dnew))
   (z0f (z4O PassesOwn.never rfl (z0A (z0g 0 (pv 0))) (z0k (i:=3) sc_tells_each_once.nd rfl (Or.inl rfl)) (z0f (z9S (PW.pt (y8z (z4k (z0V (z2X (z0h G_is_thing (hr.mono (by decide)) rfl (z0a (z0g 3 (pv 3)) (z0a (z0g 1 (pv 1)) z0c)))))) (y5u (pt_din hr.units (z0g 3 (pv 3)) (z0g 2 (pv 2)))))) (z0i (z1z z7V)) z2p)
   (z0i (y8o hr.units (pv 2) (z0g 3 (pv 3)) z7V))))
   (z0i (z1z z7V)))))
theorem sc_places_of : FnScope z9T z3r (z0b z2b):=⟨rfl,rfl,rfl,by decide +kernel,rfl,by decide +kernel,by decide +kernel⟩
theorem z9K {f : Addr} {fd : FuncData} (F : Fun K "places_of" "places_of" z2b f fd) (hm : mg "places_of" = some (.ref f)) (hb : Binds K fd z3r []) (T : Txt mg) (Z : Cls K mg base cl) (G_tells_each_once : DefOk P w K mg base 2 "tells_each_once" (spN K z0U)) : DefX P w K mg base 3 "places_of" (spX K cl z2a):=by
 obtain ⟨C_BadParts,hc_BadParts,O_BadParts,nn_BadParts,xb_BadParts⟩:=Z.o_BadParts
 exact ⟨f,fd,z3r,hm,F.kp,hb,fnX (k:=2) (g:=z3p) F sc_places_of rfl rfl fun cdv A outer s H E hr=>
  (z0f (z0W (z1d (i:=2) sc_places_of.nd rfl (Or.inl rfl) (z4i (z1h z0c))))
   (z0f (z4O PassesOwn.leaving rfl (z0A (z0g 0 (pv 0))) (z0k (i:=3) sc_places_of.nd rfl (Or.inl rfl)) (z0f (z9S (z8M hr.units (z0T rfl T.b_len (z0g 3 (pv 3))) z0n) (z0i (z8w (c:=1) rfl rfl O_BadParts (z8r hc_BadParts) z6Y)) z2p)
   (z0i (y3G (pv 2) (z0g 3 (pv 3))))))
   (z0f (z9S (z4k (z0V (z2X (z0h G_tells_each_once (hr.mono (by decide)) rfl (z0a (z0g 2 (pv 2)) (z0a (z0g 1 (pv 1)) z0c)))))) (z0i (z8w (c:=1) rfl rfl O_BadParts (z8r hc_BadParts) z6Y)) z2p)
   (z0f (z0W (z1d (i:=4) sc_places_of.nd rfl (Or.inl rfl) (z4i (y8g (y1Q (z1h (z0a z0n z0c))) (z0g 1 (pv 1))))))
   (z0f (s_for2 PassesOwn.leaving rfl (z5K rfl T.b_enumerate (z0g 0 (pv 0))) (pg_pair rfl (z0k (i:=5) sc_places_of.nd rfl (Or.inl rfl)) (z0k (i:=3) sc_places_of.nd rfl (Or.inl rfl))) (z0i (z4O PassesOwn.leaving rfl (z0A (z0g 3 (pv 3))) (z0k (i:=6) sc_places_of.nd rfl (Or.inl rfl)) (z0i (s_st0 (pv 4) (z0g 6 (pv 6)) (z0g 5 (pv 5)))))))
   (z0i (z4G (pv 4))))))))⟩
theorem y5z : FnScope y6w z5O (z0b z3Q):=⟨rfl,rfl,rfl,by decide +kernel,rfl,by decide +kernel,by decide +kernel⟩
theorem y3l {f : Addr} {fd : FuncData} (F : Fun K "folded" "folded" z3Q f fd) (hm : mg "folded" = some (.ref f)) (hb : Binds K fd z5O []) (T : Txt mg) (Z : Cls K mg base cl) (G_part : DefOk P w K mg base 2 "part" (spN K z9b)) (G_stands_together : DefOk P w K mg base 3 "stands_together" (spN K z0F)) (G_places_of : DefX P w K mg base 3 "places_of" (spX K cl z2a)) : DefX P w K mg base 4 "folded" (spX K cl z4S):=by
 obtain ⟨C_BadParts,hc_BadParts,O_BadParts,nn_BadParts,xb_BadParts⟩:=Z.o_BadParts
 exact ⟨f,fd,z5O,hm,F.kp,hb,fnX (k:=3) (g:=z8q) F y5z rfl rfl fun cdv A outer s H E hr=>
  (z0f (s_exprX (y3s G_places_of (hr.mono (by decide)) rfl xw_def (z0a (z0g 1 (pv 1)) (z0a (z0T rfl T.b_len (z0g 0 (pv 0))) z0c))))
   (z0f (z9S (z4k (z0V (y1t rfl rfl T.b_all (z2X (z2J (N':=["table", "pieces", "piece"])  rfl ⟨rfl,rfl,rfl,rfl,rfl⟩ (n:=2) rfl (z0A (z0g 1 (pv 1))) (fun _ _ _ _ _=>z0k (i:=2) nd10 rfl (Or.inl rfl)) (fun _ _ _ _ _=>z0x) (fun _ _ _ _ _=>(z0h G_stands_together (hr.mono (by decide)) rfl (z0a (z0g 0 (pv 0)) (z0a (z0g 2 (pv 2)) z0c))))))))) (z0i (z8w (c:=1) rfl rfl O_BadParts (z8r hc_BadParts) z6Y)) z2p)
   (z0i (z2y (z0h G_part (hr.mono (by decide)) rfl (z0a (z0g 0 (pv 0)) (z0a (y1Q (z1L (N':=["table", "pieces", "piece"])  rfl ⟨rfl,rfl,rfl,rfl,rfl⟩ (n:=2) rfl (z0A (z0g 1 (pv 1))) (fun _ _ _ _ _=>z0k (i:=2) nd10 rfl (Or.inl rfl)) (fun _ _ _ _ _=>z0x) (fun _ _ _ _ _=>(z0O (z0g 2 (pv 2)) z0n)))) z0c)))))))⟩
theorem y5n : FnScope y7p z7I (z0b z3X):=⟨rfl,rfl,rfl,by decide +kernel,rfl,by decide +kernel,by decide +kernel⟩
theorem y3S {f : Addr} {fd : FuncData} (F : Fun K "covers" "covers" z3X f fd) (hm : mg "covers" = some (.ref f)) (hb : Binds K fd z7I []) (T : Txt mg) (G_beats_all : DefOk P w K mg base 1 "beats_all" (spN K z0L)) (G_beaten_by : DefOk P w K mg base 2 "beaten_by" (spN K z0M)) : DefOk P w K mg base 3 "covers" (spN K z4D):=
 z4e (k:=2) (g:=z8a) F hm hb y5n rfl rfl fun cdv A outer s H E hr=>
  (z0i (z1z (y1d (z0O (z0O (z0g 0 (pv 0)) (z0g 1 (pv 1))) (z0g 2 (pv 2))) (y1p (z2X (z0h G_beats_all (hr.mono (by decide)) rfl (z0a (z0g 0 (pv 0)) (z0a (z0g 1 (pv 1)) (z0a (z2X (z0h G_beaten_by (hr.mono (by decide)) rfl (z0a (z0g 0 (pv 0)) (z0a (z0g 2 (pv 2)) z0c)))) z0c)))))))))
theorem z8t : FnScope z9c z3M (z0b z1A):=⟨rfl,rfl,rfl,by decide +kernel,rfl,by decide +kernel,by decide +kernel⟩
theorem z7T {f : Addr} {fd : FuncData} (F : Fun K "is_covered" "is_covered" z1A f fd) (hm : mg "is_covered" = some (.ref f)) (hb : Binds K fd z3M []) (T : Txt mg) (G_covers : DefOk P w K mg base 3 "covers" (spN K z4D)) : DefOk P w K mg base 4 "is_covered" (spN K z2k):=
 z4e (k:=3) (g:=z3N) F hm hb z8t rfl rfl fun cdv A outer s H E hr=>
  (z0i (z1z (y8D rfl rfl T.b_any (z2X (z2J (N':=["table", "one", "other"])  rfl ⟨rfl,rfl,rfl,rfl,rfl⟩ (n:=2) rfl (z2n rfl T.b_range (z0T rfl T.b_len (z0g 0 (pv 0)))) (fun _ _ _ _ _=>z0k (i:=2) nd11 rfl (Or.inl rfl)) (fun _ _ _ _ _=>z0x) (fun _ _ _ _ _=>(z0h G_covers (hr.mono (by decide)) rfl (z0a (z0g 0 (pv 0)) (z0a (z0g 2 (pv 2)) (z0a (z0g 1 (pv 1)) z0c))))))))))
theorem z9Q : FnScope y0a z4y (z0b z1X):=⟨rfl,rfl,rfl,by decide +kernel,rfl,by decide +kernel,by decide +kernel⟩
theorem z8E {f : Addr} {fd : FuncData} (F : Fun K "uncovered" "uncovered" z1X f fd) (hm : mg "uncovered" = some (.ref f)) (hb : Binds K fd z4y []) (T : Txt mg) (G_is_covered : DefOk P w K mg base 4 "is_covered" (spN K z2k)) : DefOk P w K mg base 5 "uncovered" (spN K z1j):=
 z4e (k:=4) (g:=z4o) F hm hb z9Q rfl rfl fun cdv A outer s H E hr=>
  (z0i (z2y (z4i (z1L (N':=["table", "one"])  rfl ⟨rfl,rfl,rfl,rfl,rfl⟩ (n:=1) rfl (z2n rfl T.b_range (z0T rfl T.b_len (z0g 0 (pv 0)))) (fun _ _ _ _ _=>z0k (i:=1) nd12 rfl (Or.inl rfl)) (fun _ _ _ _ _=>z1u (z4k (z0V (z2X (z0h G_is_covered (hr.mono (by decide)) rfl (z0a (z0g 0 (pv 0)) (z0a (z0g 1 (pv 1)) z0c))))))) (fun _ _ _ _ _=>(z0g 1 (pv 1)))))))
theorem z9X : FnScope y1Z z5o (z0b z2s):=⟨rfl,rfl,rfl,by decide +kernel,rfl,by decide +kernel,by decide +kernel⟩
theorem y0L {f : Addr} {fd : FuncData} (F : Fun K "is_chain" "is_chain" z2s f fd) (hm : mg "is_chain" = some (.ref f)) (hb : Binds K fd z5o []) (T : Txt mg) (G_beats_all : DefOk P w K mg base 1 "beats_all" (spN K z0L)) : DefOk P w K mg base 2 "is_chain" (spN K z2P):=
 z4e (k:=1) (g:=z3S) F hm hb z9X rfl rfl fun cdv A outer s H E hr=>
  (z0f (z9S (z8M hr.units (z0T rfl T.b_len (z0g 1 (pv 1))) z0n) (z0i (z1z z7V)) z2p)
   (z0i (z1z (y1t rfl rfl T.b_all (y1Q (z8c (N':=["table", "things", "place", "one"])  rfl ⟨rfl,rfl,rfl,rfl,rfl⟩ (n:=2) rfl (z5K rfl T.b_enumerate (z0g 1 (pv 1))) (fun _ _ _ _ _=>y5j rfl (z0k (i:=2) nd13 rfl (Or.inl rfl)) (z0k (i:=3) nd13 rfl (Or.inl rfl))) (fun _ _ _ _ _=>z0x) (fun _ _ _ _ _=>(z2X (z0h G_beats_all (hr.mono (by decide)) rfl (z0a (z0g 0 (pv 0)) (z0a (z0g 3 (pv 3)) (z0a (y1Q (y6q (z0g 1 (pv 1)) (y7W (z4P (z0g 2 (pv 2)) z0n)) y6B)) z0c))))))))))))
theorem y2w : FnScope y4n z5S (z0b z2O):=⟨rfl,rfl,rfl,by decide +kernel,rfl,by decide +kernel,by decide +kernel⟩
theorem y2O {f : Addr} {fd : FuncData} (F : Fun K "beaters" "beaters" z2O f fd) (hm : mg "beaters" = some (.ref f)) (hb : Binds K fd z5S []) (T : Txt mg) (G_beats_all : DefOk P w K mg base 1 "beats_all" (spN K z0L)) : DefOk P w K mg base 2 "beaters" (spN K z2g):=
 z4e (k:=1) (g:=z6r) F hm hb y2w rfl rfl fun cdv A outer s H E hr=>
  (z0i (z2y (z4i (z1L (N':=["table", "things", "one"])  rfl ⟨rfl,rfl,rfl,rfl,rfl⟩ (n:=2) rfl (z2n rfl T.b_range (z0T rfl T.b_len (z0g 0 (pv 0)))) (fun _ _ _ _ _=>z0k (i:=2) nd1 rfl (Or.inl rfl)) (fun _ _ _ _ _=>z1u (z0V (z2X (z0h G_beats_all (hr.mono (by decide)) rfl (z0a (z0g 0 (pv 0)) (z0a (z0g 2 (pv 2)) (z0a (z0g 1 (pv 1)) z0c))))))) (fun _ _ _ _ _=>(z0g 2 (pv 2)))))))
theorem y3M : FnScope y7n z7O (z0b z3T):=⟨rfl,rfl,rfl,by decide +kernel,rfl,by decide +kernel,by decide +kernel⟩
theorem y2R {f : Addr} {fd : FuncData} (F : Fun K "stands" "stands" z3T f fd) (hm : mg "stands" = some (.ref f)) (hb : Binds K fd z7O []) (T : Txt mg) (G_is_chain : DefOk P w K mg base 2 "is_chain" (spN K z2P)) (G_beaters : DefOk P w K mg base 2 "beaters" (spN K z2g)) : DefOk P w K mg base 3 "stands" (spN K z3R):=
 z4e (k:=2) (g:=z8f) F hm hb y3M rfl rfl fun cdv A outer s H E hr=>
  (z0i (z1z (y1d (z2X (z0h G_is_chain (hr.mono (by decide)) rfl (z0a (z0g 0 (pv 0)) (z0a (z0g 1 (pv 1)) z0c)))) (y1p (y5C hr.units (z0T rfl T.b_len (z2X (z0h G_beaters (hr.mono (by decide)) rfl (z0a (z0g 0 (pv 0)) (z0a (z0g 1 (pv 1)) z0c))))) z0n)))))
theorem sc_ended_chains : FnScope z6M z2f (z0b z0K):=⟨rfl,rfl,rfl,by decide +kernel,rfl,by decide +kernel,by decide +kernel⟩
theorem z3y {f : Addr} {fd : FuncData} (F : Fun K "ended_chains" "ended_chains" z0K f fd) (hm : mg "ended_chains" = some (.ref f)) (hb : Binds K fd z2f []) (T : Txt mg) : ∀ n : Nat,DefOk P w K mg base (1 + n) "ended_chains" (spM2 K (z1f n))
 | 0=>defM2 (k:=0) (g:=fun _=>none) F hm hb sc_ended_chains rfl rfl fun cdv A outer s H H0 E hr=>y6p
 | n + 1=>by
  have G_ended_chains:=z3y F hm hb T n
  exact defM2 (k:=1 + n) (g:=z2e (z1f n)) F hm hb sc_ended_chains rfl rfl fun cdv A outer s H H0 E hr=>
  (z0f (z9S (z4k (z0V (z0g 2 (pv 2)))) (z0i (s_ret1 (pv 1))) z2p)
   (z0f (z0W (z1d (i:=3) sc_ended_chains.nd rfl (Or.inl rfl) (z4i (z1h z0c (el rfl)))))
   (z0f (z4O PassesOwn.never rfl (z0A (z0g 2 (pv 2))) (z0k (i:=4) sc_ended_chains.nd rfl (Or.inr rfl)) (z0i (y2T (pv 3) (z9p G_ended_chains (hr.mono (by omega)) rfl (z0g 0 (pv 0)) (z4i (y3c (z0g 1 (pv 1)) (y1Q (z1h (z0a (z0g 4 (pv 4)) z0c) (el rfl))))) (z0a (y1Q (z1L (N':=["table", "chain", "further", "chains", "thing", "other"])  rfl ⟨rfl,rfl,rfl,rfl,rfl⟩ (n:=5) rfl (z0A (z0g 2 (pv 2))) (fun _ _ _ _ _=>z0k (i:=5) nd14 rfl (Or.inl rfl)) (fun _ _ _ _ _=>z1u (z0V (z0O (z0O (z0g 0 (pv 0)) (z0g 4 (pv 4))) (z0g 5 (pv 5))))) (fun _ _ _ _ _=>(z0g 5 (pv 5))))) z0c)))))
   (z0i (z4G (pv 3))))))
theorem z6A {f : Addr} {fd : FuncData} (F : Fun K "ended_chains" "ended_chains" z0K f fd) (hm : mg "ended_chains" = some (.ref f)) (hb : Binds K fd z2f []) (T : Txt mg) : DefOk P w K mg base 13 "ended_chains" (spM2 K z1w):=z3y F hm hb T 12
theorem sc_crown_paper : FnScope z7L z3c (z0b z1k):=⟨rfl,rfl,rfl,by decide +kernel,rfl,by decide +kernel,by decide +kernel⟩
theorem z6G {f : Addr} {fd : FuncData} (F : Fun K "crown_paper" "crown_paper" z1k f fd) (hm : mg "crown_paper" = some (.ref f)) (hb : Binds K fd z3c []) (T : Txt mg) (G_beaten_by : DefOk P w K mg base 2 "beaten_by" (spN K z0M)) (G_beaters : DefOk P w K mg base 2 "beaters" (spN K z2g)) (G_stands : DefOk P w K mg base 3 "stands" (spN K z3R)) (G_ended_chains : DefOk P w K mg base 13 "ended_chains" (spM2 K z1w)) : DefOk P w K mg base 14 "crown_paper" (spR K z1o):=
 defR (k:=13) (g:=z3w) F hm hb sc_crown_paper rfl rfl fun cdv A outer s H E B hr=>
  (z0f (z9f (z1d (i:=2) sc_crown_paper.nd rfl (Or.inl rfl) (z2X (z9p G_ended_chains (hr.mono (by decide)) rfl (z0g 0 (pv 0)) (z4i (z1h (z0a (z0g 1 (pv 1)) z0c))) (z0a (z2X (z0h G_beaten_by (hr.mono (by decide)) rfl (z0a (z0g 0 (pv 0)) (z0a (z0g 1 (pv 1)) z0c)))) z0c)))))
   (z0f (z4O PassesOwn.never rfl (z0A (z0g 2 (pv 2))) (z0k (i:=3) sc_crown_paper.nd rfl (Or.inl rfl)) (z0i (z9S (z0V (z2X (z0h G_stands (hr.mono (by decide)) rfl (z0a (z0g 0 (pv 0)) (z0a (z0g 3 (pv 3)) z0c))))) (z0i (y8j (y1w (z0a z6Y (z0a (z0g 3 (pv 3)) z0c))))) z2p)))
   (z0i (y8j (y1w (z0a z6Y (z0a (y1Q (z1L (N':=["table", "thing", "chains", "3", "chain"])  rfl ⟨rfl,rfl,rfl,rfl,rfl⟩ (n:=4) rfl (z0A (z0g 2 (pv 2))) (fun _ _ _ _ _=>z0k (i:=4) nd15 rfl (Or.inl rfl)) (fun _ _ _ _ _=>z0x) (fun _ _ _ _ _=>(y1w (z0a (z0g 4 (pv 4)) (z0a (z0O (z2X (z0h G_beaters (hr.mono (by decide)) rfl (z0a (z0g 0 (pv 0)) (z0a (z0g 4 (pv 4)) z0c)))) z0n) z0c)))))) z0c)))))))
theorem y3r : FnScope y7L z7u (z0b z3Z):=⟨rfl,rfl,rfl,by decide +kernel,rfl,by decide +kernel,by decide +kernel⟩
theorem y5e {f : Addr} {fd : FuncData} (F : Fun K "crowns" "crowns" z3Z f fd) (hm : mg "crowns" = some (.ref f)) (hb : Binds K fd z7u []) (T : Txt mg) (G_crown_paper : DefOk P w K mg base 14 "crown_paper" (spR K z1o)) : DefOk P w K mg base 15 "crowns" (spN K z2E):=
 z4e (k:=14) (g:=z7C) F hm hb y3r rfl rfl fun cdv A outer s H E hr=>
  (z0i (z2y (z4i (z1L (N':=["table", "thing"])  rfl ⟨rfl,rfl,rfl,rfl,rfl⟩ (n:=1) rfl (z2n rfl T.b_range (z0T rfl T.b_len (z0g 0 (pv 0)))) (fun _ _ _ _ _=>z0k (i:=1) nd16 rfl (Or.inl rfl)) (fun _ _ _ _ _=>z1u (z8M hr.units (z0O (y6l G_crown_paper (hr.mono (by decide)) rfl (z0a (z0g 0 (pv 0)) (z0a (z0g 1 (pv 1)) z0c))) z0n) z6Y)) (fun _ _ _ _ _=>(z0g 1 (pv 1)))))))
theorem z5Z : FnScope z6Q z2M (z0b z1c):=⟨rfl,rfl,rfl,by decide +kernel,rfl,by decide +kernel,by decide +kernel⟩
theorem z5X {f : Addr} {fd : FuncData} (F : Fun K "_law_cell_at" "_law_cell_at" z1c f fd) (hm : mg "_law_cell_at" = some (.ref f)) (hb : Binds K fd z2M []) (T : Txt mg) : DefOk P w K mg base 1 "_law_cell_at" (spN K z0p):=
 z4e (k:=0) (g:=z2d) F hm hb z5Z rfl rfl fun cdv A outer s H E hr=>
  (z0f (z9S (pt_lt (z0g 1 (pv 1)) (z0T rfl T.b_len (z0g 0 (pv 0)))) (z0i (z1z (z0O (z0g 0 (pv 0)) (z0g 1 (pv 1))))) z2p)
   (z0i (z1z z0n)))
theorem sc__law_table_by : FnScope z6j z2x (z0b z0S):=⟨rfl,rfl,rfl,by decide +kernel,rfl,by decide +kernel,by decide +kernel⟩
theorem z5y {f : Addr} {fd : FuncData} (F : Fun K "_law_table_by" "_law_table_by" z0S f fd) (hm : mg "_law_table_by" = some (.ref f)) (hb : Binds K fd z2x []) (T : Txt mg) : DefOk P w K mg base 1 "_law_table_by" (spN K z0Q):=
 z4e (k:=0) (g:=z2u) F hm hb sc__law_table_by rfl rfl fun cdv A outer s H E hr=>
  (z0f (z0W (pas_cN (i:=2) (N':=["cell", "many", "rows", "rest", "one", "other", "k"]) sc__law_table_by.nd rfl rfl rfl ⟨rfl,rfl,rfl,rfl,rfl⟩ (n:=6) rfl (z2n rfl T.b_range (z0g 1 (pv 1))) (fun _ _ _ _ _=>z0k (i:=6) nd17 rfl (Or.inl rfl)) (fun _ _ _ _ _=>z0x) (fun _ _ _ _ _=>(z4i (y8g (y1Q (z1h (z0a z7V z0c))) (z0g 1 (pv 1)))))))
   (z0f (z6a (z1d (i:=3) sc__law_table_by.nd rfl (Or.inl rfl) (z5w (pd_mul (z0g 0 (pv 0)) z0n) z0n)))
   (z0f (z4O PassesOwn.never rfl (z2n rfl T.b_range (z0g 1 (pv 1))) (z0k (i:=4) sc__law_table_by.nd rfl (Or.inl rfl)) (z0i (z4O PassesOwn.never rfl (pi_rng2 rfl T.b_range (z4P (z0g 4 (pv 4)) z0n) (z0g 1 (pv 1))) (z0k (i:=5) sc__law_table_by.nd rfl (Or.inl rfl)) (z0f (s_st1 (pv 2) (z0g 4 (pv 4)) (z0g 5 (pv 5)) (y5C hr.units (z5w (z0g 3 (pv 3)) z0n) z0n))
   (z0f (s_st1 (pv 2) (z0g 5 (pv 5)) (z0g 4 (pv 4)) (y5C hr.units (z5w (z0g 3 (pv 3)) z0n) z0n))
   (z0i (z6a (z1d (i:=3) sc__law_table_by.nd rfl (Or.inl rfl) (y1Y (z0g 3 (pv 3)) z0n)))))))))
   (z0i (z4G (pv 2))))))
theorem sc__law_mixed : FnScope z8D z3P (z0b z1C):=⟨rfl,rfl,rfl,by decide +kernel,rfl,by decide +kernel,by decide +kernel⟩
theorem z8g {f : Addr} {fd : FuncData} (F : Fun K "_law_mixed" "_law_mixed" z1C f fd) (hm : mg "_law_mixed" = some (.ref f)) (hb : Binds K fd z3P []) (T : Txt mg) (G__law_cell_at : DefOk P w K mg base 1 "_law_cell_at" (spN K z0p)) (G__law_table_by : DefOk P w K mg base 1 "_law_table_by" (spN K z0Q)) : DefOk P w K mg base 2 "_law_mixed" (spN K z1B):=
 z4e (k:=1) (g:=z3E) F hm hb sc__law_mixed rfl rfl fun cdv A outer s H E hr=>
  (z0f (z6a (z1d (i:=1) sc__law_mixed.nd rfl (Or.inl rfl) (z4P z0n (z5w (z2X (z0h G__law_cell_at (hr.mono (by decide)) rfl (z0a (z0g 0 (pv 0)) (z0a z0n z0c)))) z0n))))
   (z0f (z9S (z8M hr.units (z5w (y1Y (z2X (z0h G__law_cell_at (hr.mono (by decide)) rfl (z0a (z0g 0 (pv 0)) (z0a z0n z0c)))) z0n) z0n) z0n) (z0i (z6a (z1d (i:=1) sc__law_mixed.nd rfl (Or.inl rfl) (z4P (z0g 1 (pv 1)) z0n)))) z2p)
   (z0f (z0W (z1d (i:=2) sc__law_mixed.nd rfl (Or.inl rfl) (z0h G__law_table_by (hr.mono (by decide)) rfl (z0a (z2X (z0h G__law_cell_at (hr.mono (by decide)) rfl (z0a (z0g 0 (pv 0)) (z0a z0n z0c)))) (z0a (z0g 1 (pv 1)) z0c)))))
   (z0f (z0W (z1d (i:=3) sc__law_mixed.nd rfl (Or.inl rfl) (z4i (z1h z0c))))
   (z0f (z0W (z1d (i:=4) sc__law_mixed.nd rfl (Or.inl rfl) (z4i (z1h z0c))))
   (z0f (y8u PassesOwn.never rfl (y1v rfl T.b_range (z0T rfl T.b_len (z0g 2 (pv 2)))) (z0k (i:=5) sc__law_mixed.nd rfl (Or.inl rfl)) (z0f (z0W (z1d (i:=6) sc__law_mixed.nd rfl (Or.inl rfl) (z0h G__law_cell_at (hr.mono (by decide)) rfl (z0a (z0g 0 (pv 0)) (z0a (z4P z0n (z0g 5 (pv 5))) z0c)))))
   (z0f (z6a (z1d (i:=7) sc__law_mixed.nd rfl (Or.inl rfl) (z4P (y8w (y8w z0n (z0T rfl T.b_len (z0g 4 (pv 4)))) (z0T rfl T.b_len (z0g 2 (pv 2)))) (z0g 5 (pv 5)))))
   (z0f (z6a (z1d (i:=8) sc__law_mixed.nd rfl (Or.inl rfl) (z0O (y1Q (z1h (z0a z0n (z0a (y4J rfl rfl T.b_min z0n (z0g 7 (pv 7))) (z0a (z4P z0n (z5w (y1Y (z0g 6 (pv 6)) z0n) (z0g 7 (pv 7)))) z0c))))) (y4J rfl rfl T.b_min (z5w (z0g 6 (pv 6)) z0n) z0n))))
   (z0f (z6v (pv 3) (z0h G__law_table_by (hr.mono (by decide)) rfl (z0a (y1Y (z0g 6 (pv 6)) z0n) (z0a (z0g 8 (pv 8)) z0c))))
   (z0i (z4O PassesOwn.never rfl (z2n rfl T.b_range (z0g 8 (pv 8))) (z0k (i:=9) sc__law_mixed.nd rfl (Or.inl rfl)) (z0f (z6a (z1d (i:=10) sc__law_mixed.nd rfl (Or.inl rfl) (z5w (z2X (z0h G__law_cell_at (hr.mono (by decide)) rfl (z0a (z0g 0 (pv 0)) (z0a (z4P z0n (z0T rfl T.b_len (z0g 4 (pv 4)))) z0c)))) (z4P (z0T rfl T.b_len (z0g 4 (pv 4))) z0n))))
   (z0i (s_m0 PySem.F.slot_list_insert PySem.F.type_list_insert y2V y3X (pv 4) (z0a (z0g 10 (pv 10)) (z0a (y1w (z0a (z0g 5 (pv 5)) (z0a (z0g 9 (pv 9)) z0c))) z0c))))))))))))
   (z0i (s_ret3 (by decide) (by decide) (by decide) (pv 2) (pv 3) (pv 4)))))))))
theorem z8s : FnScope z9P z3K (z0b z1D):=⟨rfl,rfl,rfl,by decide +kernel,rfl,by decide +kernel,by decide +kernel⟩
theorem z8i {f : Addr} {fd : FuncData} (F : Fun K "_law_beats" "_law_beats" z1D f fd) (hm : mg "_law_beats" = some (.ref f)) (hb : Binds K fd z3K []) (T : Txt mg) : DefOk P w K mg base 1 "_law_beats" (spN K z2j):=
 z4e (k:=0) (g:=z2B) F hm hb z8s rfl rfl fun cdv A outer s H E hr=>
  (z0f (z9S (z8M hr.units (z0O (z0g 1 (pv 1)) z0n) (z0O (z0g 2 (pv 2)) z0n)) (z0i (z1z (z0O (z0O (z0O (z0O (z0g 0 (pv 0)) z0n) (z0O (z0g 1 (pv 1)) z0n)) (z0O (z0g 1 (pv 1)) z0n)) (z0O (z0g 2 (pv 2)) z0n)))) z2p)
   (z0i (z1z (z0O (z0O (z0O (z0g 0 (pv 0)) z0n) (z0O (z0g 1 (pv 1)) z0n)) (z0O (z0g 2 (pv 2)) z0n)))))
theorem sc__law_table : FnScope z8K z3G (z0b z1F):=⟨rfl,rfl,rfl,by decide +kernel,rfl,by decide +kernel,by decide +kernel⟩
theorem z8n {f : Addr} {fd : FuncData} (F : Fun K "_law_table" "_law_table" z1F f fd) (hm : mg "_law_table" = some (.ref f)) (hb : Binds K fd z3G []) (T : Txt mg) (G__law_beats : DefOk P w K mg base 1 "_law_beats" (spN K z2j)) : DefOk P w K mg base 2 "_law_table" (spN K z2i):=
 z4e (k:=1) (g:=z3J) F hm hb sc__law_table rfl rfl fun cdv A outer s H E hr=>
  (z0f (z0W (z1d (i:=1) sc__law_table.nd rfl (Or.inl rfl) (z4i (z1h z0c))))
   (z0f (z4O PassesOwn.never rfl (z0A (z0O (z0g 0 (pv 0)) z0n)) (z0k (i:=2) sc__law_table.nd rfl (Or.inr rfl)) (z0i (z6v (pv 1) (z2J (N':=["mixed", "rows", "one", "other"])  rfl ⟨rfl,rfl,rfl,rfl,rfl⟩ (n:=3) rfl (z0A (z0O (z0g 0 (pv 0)) z0n)) (fun _ _ _ _ _=>z0k (i:=3) nd18 rfl (Or.inl rfl)) (fun _ _ _ _ _=>z0x) (fun _ _ _ _ _=>(z0h G__law_beats (hr.mono (by decide)) rfl (z0a (z0g 0 (pv 0)) (z0a (z0g 2 (pv 2)) (z0a (z0g 3 (pv 3)) z0c)))))))))
   (z0i (z4G (pv 1)))))
theorem sc__law_pieces : FnScope z7y z3a (z0b z1r):=⟨rfl,rfl,rfl,by decide +kernel,rfl,by decide +kernel,by decide +kernel⟩
theorem z6R {f : Addr} {fd : FuncData} (F : Fun K "_law_pieces" "_law_pieces" z1r f fd) (hm : mg "_law_pieces" = some (.ref f)) (hb : Binds K fd z3a []) (T : Txt mg) : DefOk P w K mg base 1 "_law_pieces" (spN K z1J):=
 z4e (k:=0) (g:=z2Z) F hm hb sc__law_pieces rfl rfl fun cdv A outer s H E hr=>
  (z0f (z0W (z1d (i:=1) sc__law_pieces.nd rfl (Or.inl rfl) (z4i (z1h z0c))))
   (z0f (y8u PassesOwn.never rfl (y1v rfl T.b_range (z0T rfl T.b_len (z0O (z0g 0 (pv 0)) z0n))) (z0k (i:=2) sc__law_pieces.nd rfl (Or.inr rfl)) (z0i (z6v (pv 1) (z4i (z1L (N':=["mixed", "pieces", "k", "thing"])  rfl ⟨rfl,rfl,rfl,rfl,rfl⟩ (n:=3) rfl (z2n rfl T.b_range (z0T rfl T.b_len (z0O (z0g 0 (pv 0)) z0n))) (fun _ _ _ _ _=>z0k (i:=3) nd19 rfl (Or.inl rfl)) (fun _ _ _ _ _=>z1u (z8M hr.units (z0O (z0O (z0O (z0g 0 (pv 0)) z0n) (z0g 3 (pv 3))) z0n) (z0g 2 (pv 2)))) (fun _ _ _ _ _=>(z0g 3 (pv 3))))))))
   (z0i (z4G (pv 1)))))
theorem z8P : FnScope y0N z4m (z0b z1Z):=⟨rfl,rfl,rfl,by decide +kernel,rfl,by decide +kernel,by decide +kernel⟩
theorem z8J {f : Addr} {fd : FuncData} (F : Fun K "_law_part" "_law_part" z1Z f fd) (hm : mg "_law_part" = some (.ref f)) (hb : Binds K fd z4m []) (T : Txt mg) : DefOk P w K mg base 1 "_law_part" (spN K z2c):=
 z4e (k:=0) (g:=z4w) F hm hb z8P rfl rfl fun cdv A outer s H E hr=>
  (z0i (z2y (z2J (N':=["table", "things", "one"])  rfl ⟨rfl,rfl,rfl,rfl,rfl⟩ (n:=2) rfl (z0A (z0g 1 (pv 1))) (fun _ _ _ _ _=>z0k (i:=2) nd1 rfl (Or.inr rfl)) (fun _ _ _ _ _=>z0x) (fun _ _ _ _ _=>(z4i (z1L (N':=["table", "things", "one", "other"])  rfl ⟨rfl,rfl,rfl,rfl,rfl⟩ (n:=3) rfl (z0A (z0g 1 (pv 1))) (fun _ _ _ _ _=>z0k (i:=3) nd20 rfl (Or.inl rfl)) (fun _ _ _ _ _=>z0x) (fun _ _ _ _ _=>(z0O (z0O (z0g 0 (pv 0)) (z0g 2 (pv 2))) (z0g 3 (pv 3))))))))))
theorem sc__law_within : FnScope z8e z3o (z0b z1s):=⟨rfl,rfl,rfl,by decide +kernel,rfl,by decide +kernel,by decide +kernel⟩
theorem z6J {f : Addr} {fd : FuncData} (F : Fun K "_law_within" "_law_within" z1s f fd) (hm : mg "_law_within" = some (.ref f)) (hb : Binds K fd z3o []) (T : Txt mg) : DefOk P w K mg base 1 "_law_within" (spN K z0Z):=
 z4e (k:=0) (g:=z3m) F hm hb sc__law_within rfl rfl fun cdv A outer s H E hr=>
  (z0f (z0W (z1d (i:=3) sc__law_within.nd rfl (Or.inl rfl) (z4i (z1h z0c))))
   (z0f (z4O PassesOwn.never rfl (z0A (z0g 1 (pv 1))) (z0k (i:=4) sc__law_within.nd rfl (Or.inr rfl)) (z0i (z0W (z1d (i:=3) sc__law_within.nd rfl (Or.inl rfl) (z4i (y3c (z0g 3 (pv 3)) (y1Q (z1L (N':=["pieces", "upper", "inner", "found", "k", "at"])  rfl ⟨rfl,rfl,rfl,rfl,rfl⟩ (n:=5) rfl (z0A (z0O (z0g 2 (pv 2)) (z0g 4 (pv 4)))) (fun _ _ _ _ _=>z0k (i:=5) nd21 rfl (Or.inl rfl)) (fun _ _ _ _ _=>z0x) (fun _ _ _ _ _=>(z0O (z0O (z0g 0 (pv 0)) (z0g 4 (pv 4))) (z0g 5 (pv 5))))))))))))
   (z0i (z2y (z4i (z9d rfl T.b_sorted (z0g 3 (pv 3))))))))
theorem sc_law : FnScope N_law P_law (z0b z7J):=⟨rfl,rfl,rfl,by decide +kernel,rfl,by decide +kernel,by decide +kernel⟩
theorem ok_law {f : Addr} {fd : FuncData} (F : Fun K "law" "law" z7J f fd) (T : Txt mg) (Z : Cls K mg base cl) (G_parts : DefOk P w K mg base 6 "parts" (spN K z4z)) (G_folded : DefX P w K mg base 4 "folded" (spX K cl z4S)) (G_uncovered : DefOk P w K mg base 5 "uncovered" (spN K z1j)) (G_crowns : DefOk P w K mg base 15 "crowns" (spN K z2E)) (G__law_mixed : DefOk P w K mg base 2 "_law_mixed" (spN K z1B)) (G__law_table : DefOk P w K mg base 2 "_law_table" (spN K z2i)) (G__law_pieces : DefOk P w K mg base 1 "_law_pieces" (spN K z1J)) (G__law_part : DefOk P w K mg base 1 "_law_part" (spN K z2c)) (G__law_within : DefOk P w K mg base 1 "_law_within" (spN K z0Z)) : FnOk P w K mg base CX0 16 f fd P_law (spN K y2t):=
 fnN (k:=15) (g:=g_law) F sc_law rfl rfl fun cdv A outer s H E hr=>
  (z0f (z9f (z1d (i:=1) sc_law.nd rfl (Or.inl rfl) (z2X (z0h G__law_mixed (hr.mono (by decide)) rfl (z0a (z0g 0 (pv 0)) z0c)))))
   (z0f (z9f (z1d (i:=2) sc_law.nd rfl (Or.inr rfl) (z2X (z0h G__law_table (hr.mono (by decide)) rfl (z0a (z0g 1 (pv 1)) z0c)))))
   (z0f (z4O PassesOwn.never rfl (z0A (y1Q (z1h (z0a (z2X (z0h G__law_pieces (hr.mono (by decide)) rfl (z0a (z0g 1 (pv 1)) z0c))) (z0a (z2X (z0h G_parts (hr.mono (by decide)) rfl (z0a (z2X (z2J (N':=["script", "mixed", "table", "pieces", "outer", "inner", "due", "row"])  rfl ⟨rfl,rfl,rfl,rfl,rfl⟩ (n:=7) rfl (z0A (z0g 2 (pv 2))) (fun _ _ _ _ _=>z0k (i:=7) nd22 rfl (Or.inl rfl)) (fun _ _ _ _ _=>z0x) (fun _ _ _ _ _=>(z4i (z8H rfl T.b_list (z0g 7 (pv 7))))))) z0c))) z0c))))) (z0k (i:=3) sc_law.nd rfl (Or.inl rfl)) (z0f (z9f (z1d (i:=4) sc_law.nd rfl (Or.inl rfl) (z2X (y7U G_folded (hr.mono (by decide)) rfl (z0a (z0g 2 (pv 2)) (z0a (z2X (z2J (N':=["script", "mixed", "table", "pieces", "outer", "inner", "due", "piece"])  rfl ⟨rfl,rfl,rfl,rfl,rfl⟩ (n:=7) rfl (z0A (z0g 3 (pv 3))) (fun _ _ _ _ _=>z0k (i:=7) nd24 rfl (Or.inl rfl)) (fun _ _ _ _ _=>z0x) (fun _ _ _ _ _=>(z4i (z8H rfl T.b_list (z0g 7 (pv 7))))))) z0c))))))
   (z0f (z9f (PAsg.imp (y8c (i:=5) (N':=["script", "mixed", "table", "pieces", "outer", "inner", "due", "piece"]) sc_law.nd rfl rfl rfl ⟨rfl,rfl,rfl,rfl,rfl⟩ (n:=7) rfl (z0A (z0g 3 (pv 3))) (fun _ _ _ _ _=>z0k (i:=7) nd24 rfl (Or.inl rfl)) (fun _ _ _ _ _=>z0x) (fun _ _ _ _ _=>(z2X (z0h G__law_part (hr.mono (by decide)) rfl (z0a (z0g 2 (pv 2)) (z0a (z0g 7 (pv 7)) z0c)))))) iDF))
   (z0f (z0W (z1d (i:=6) sc_law.nd rfl (Or.inl rfl) (z0h G__law_within (hr.mono (by decide)) rfl (z0a (z0g 3 (pv 3)) (z0a (z2X (z0h G_uncovered (hr.mono (by decide)) rfl (z0a (z0g 4 (pv 4)) z0c))) (z0a (z2X (z2J (N':=["script", "mixed", "table", "pieces", "outer", "inner", "due", "one"])  rfl ⟨rfl,rfl,rfl,rfl,rfl⟩ (n:=7) rfl (z0A (z0g 5 (pv 5))) (fun _ _ _ _ _=>z0k (i:=7) nd23 rfl (Or.inl rfl)) (fun _ _ _ _ _=>z0x) (fun _ _ _ _ _=>(z0h G_uncovered (hr.mono (by decide)) rfl (z0a (z0g 7 (pv 7)) z0c))))) z0c))))))
   (z0f (z9S (pt_ne hr.units (z2X (z0h G_uncovered (hr.mono (by decide)) rfl (z0a (z0g 2 (pv 2)) z0c))) (z0g 6 (pv 6))) (z0i (z1z z7V)) z2p)
   (z0f (z0W (z1d (i:=6) sc_law.nd rfl (Or.inl rfl) (z0h G__law_within (hr.mono (by decide)) rfl (z0a (z0g 3 (pv 3)) (z0a (z2X (z0h G_crowns (hr.mono (by decide)) rfl (z0a (z0g 4 (pv 4)) z0c))) (z0a (z2X (z2J (N':=["script", "mixed", "table", "pieces", "outer", "inner", "due", "one"])  rfl ⟨rfl,rfl,rfl,rfl,rfl⟩ (n:=7) rfl (z0A (z0g 5 (pv 5))) (fun _ _ _ _ _=>z0k (i:=7) nd23 rfl (Or.inl rfl)) (fun _ _ _ _ _=>z0x) (fun _ _ _ _ _=>(z0h G_crowns (hr.mono (by decide)) rfl (z0a (z0g 7 (pv 7)) z0c))))) z0c))))))
   (z0i (z9S (pt_ne hr.units (z2X (z0h G_crowns (hr.mono (by decide)) rfl (z0a (z0g 2 (pv 2)) z0c))) (z0g 6 (pv 6))) (z0i (z1z z7V)) z2p))))))))
   (z0i (z1z z7V)))))
end
theorem y5L {α : Type} {us : List α} (h : us.length=1) : ∃ a0,us=[a0]:=by
 cases us with
 | nil=>cases h
 | cons b us=>exact ⟨b,by rw [bH.mp (Nat.succ.inj h)]⟩
theorem z6n {α : Type} {us : List α} (h : us.length=2) : ∃ a0 a1,us=[a0,a1]:=by
 cases us with
 | nil=>cases h
 | cons b us=>obtain ⟨a1,e⟩:=y5L (Nat.succ.inj h); exact ⟨b,a1,by rw [e]⟩
theorem y8H {α : Type} {us : List α} (h : us.length=3) : ∃ a0 a1 a2,us=[a0,a1,a2]:=by
 cases us with
 | nil=>cases h
 | cons b us=>obtain ⟨a1,a2,e⟩:=z6n (Nat.succ.inj h); exact ⟨b,a1,a2,by rw [e]⟩
theorem us_4 {α : Type} {us : List α} (h : us.length=4) : ∃ a0 a1 a2 a3,us=[a0,a1,a2,a3]:=by
 cases us with
 | nil=>cases h
 | cons b us=>obtain ⟨a1,a2,a3,e⟩:=y8H (Nat.succ.inj h); exact ⟨b,a1,a2,a3,by rw [e]⟩
theorem us_5 {α : Type} {us : List α} (h : us.length=5) : ∃ a0 a1 a2 a3 a4,us=[a0,a1,a2,a3,a4]:=by
 cases us with
 | nil=>cases h
 | cons b us=>obtain ⟨a1,a2,a3,a4,e⟩:=us_4 (Nat.succ.inj h); exact ⟨b,a1,a2,a3,a4,by rw [e]⟩
theorem us_6 {α : Type} {us : List α} (h : us.length=6) : ∃ a0 a1 a2 a3 a4 a5,us=[a0,a1,a2,a3,a4,a5]:=by
 cases us with
 | nil=>cases h
 | cons b us=>obtain ⟨a1,a2,a3,a4,a5,e⟩:=us_5 (Nat.succ.inj h); exact ⟨b,a1,a2,a3,a4,a5,by rw [e]⟩
theorem all_mk {l : c7} {w : World} {K : aa} {h : Heap} {mg : Str->Option Value} {fa : Addr} (X : K.In h) (G : h.Ns mainGlobals mg) (hfa : mg "law" = some (.ref fa))
  {f_part f_picked f_beaten_by f_beats_all f_places_true f_reached f_steps_from f_rings f_places_with f_stands_together f_parting f_sees_as_one f_closure f_parts f_greatest_with f_leads_to_all f_is_thing f_tells_each_once f_places_of f_folded f_covers f_uncovered f_is_covered f_is_chain f_beaters f_stands f_crowns f_crown_paper f_ended_chains f__law_cell_at f__law_table_by f__law_mixed f__law_beats f__law_table f__law_pieces f__law_part f__law_within f_law : Addr} {od36 an36 : Option Addr} {sl36 : Array (Option Value)} {oc36 kV36 dc36 pm36 cd36 ct36 : Value} {od32 an32 : Option Addr} {sl32 : Array (Option Value)} {oc32 kV32 dc32 pm32 cd32 ct32 : Value} {od19 an19 : Option Addr} {sl19 : Array (Option Value)} {oc19 kV19 dc19 pm19 cd19 ct19 : Value} {od20 an20 : Option Addr} {sl20 : Array (Option Value)} {oc20 kV20 dc20 pm20 cd20 ct20 : Value} {od10 an10 : Option Addr} {sl10 : Array (Option Value)} {oc10 kV10 dc10 pm10 cd10 ct10 : Value} {od28 an28 : Option Addr} {sl28 : Array (Option Value)} {oc28 kV28 dc28 pm28 cd28 ct28 : Value} {od17 an17 : Option Addr} {sl17 : Array (Option Value)} {oc17 kV17 dc17 pm17 cd17 ct17 : Value} {od35 an35 : Option Addr} {sl35 : Array (Option Value)} {oc35 kV35 dc35 pm35 cd35 ct35 : Value} {od11 an11 : Option Addr} {sl11 : Array (Option Value)} {oc11 kV11 dc11 pm11 cd11 ct11 : Value} {od0 an0 : Option Addr} {sl0 : Array (Option Value)} {oc0 kV0 dc0 pm0 cd0 ct0 : Value} {od27 an27 : Option Addr} {sl27 : Array (Option Value)} {oc27 kV27 dc27 pm27 cd27 ct27 : Value} {od12 an12 : Option Addr} {sl12 : Array (Option Value)} {oc12 kV12 dc12 pm12 cd12 ct12 : Value} {od26 an26 : Option Addr} {sl26 : Array (Option Value)} {oc26 kV26 dc26 pm26 cd26 ct26 : Value} {od34 an34 : Option Addr} {sl34 : Array (Option Value)} {oc34 kV34 dc34 pm34 cd34 ct34 : Value} {od3 an3 : Option Addr} {sl3 : Array (Option Value)} {oc3 kV3 dc3 pm3 cd3 ct3 : Value} {od6 an6 : Option Addr} {sl6 : Array (Option Value)} {oc6 kV6 dc6 pm6 cd6 ct6 : Value} {od24 an24 : Option Addr} {sl24 : Array (Option Value)} {oc24 kV24 dc24 pm24 cd24 ct24 : Value} {od1 an1 : Option Addr} {sl1 : Array (Option Value)} {oc1 kV1 dc1 pm1 cd1 ct1 : Value} {od21 an21 : Option Addr} {sl21 : Array (Option Value)} {oc21 kV21 dc21 pm21 cd21 ct21 : Value} {od31 an31 : Option Addr} {sl31 : Array (Option Value)} {oc31 kV31 dc31 pm31 cd31 ct31 : Value} {od29 an29 : Option Addr} {sl29 : Array (Option Value)} {oc29 kV29 dc29 pm29 cd29 ct29 : Value} {od22 an22 : Option Addr} {sl22 : Array (Option Value)} {oc22 kV22 dc22 pm22 cd22 ct22 : Value} {od16 an16 : Option Addr} {sl16 : Array (Option Value)} {oc16 kV16 dc16 pm16 cd16 ct16 : Value} {od23 an23 : Option Addr} {sl23 : Array (Option Value)} {oc23 kV23 dc23 pm23 cd23 ct23 : Value} {od25 an25 : Option Addr} {sl25 : Array (Option Value)} {oc25 kV25 dc25 pm25 cd25 ct25 : Value} {od33 an33 : Option Addr} {sl33 : Array (Option Value)} {oc33 kV33 dc33 pm33 cd33 ct33 : Value} {od30 an30 : Option Addr} {sl30 : Array (Option Value)} {oc30 kV30 dc30 pm30 cd30 ct30 : Value} {od9 an9 : Option Addr} {sl9 : Array (Option Value)} {oc9 kV9 dc9 pm9 cd9 ct9 : Value} {od5 an5 : Option Addr} {sl5 : Array (Option Value)} {oc5 kV5 dc5 pm5 cd5 ct5 : Value} {od4 an4 : Option Addr} {sl4 : Array (Option Value)} {oc4 kV4 dc4 pm4 cd4 ct4 : Value} {od2 an2 : Option Addr} {sl2 : Array (Option Value)} {oc2 kV2 dc2 pm2 cd2 ct2 : Value} {od14 an14 : Option Addr} {sl14 : Array (Option Value)} {oc14 kV14 dc14 pm14 cd14 ct14 : Value} {od13 an13 : Option Addr} {sl13 : Array (Option Value)} {oc13 kV13 dc13 pm13 cd13 ct13 : Value} {od15 an15 : Option Addr} {sl15 : Array (Option Value)} {oc15 kV15 dc15 pm15 cd15 ct15 : Value} {od7 an7 : Option Addr} {sl7 : Array (Option Value)} {oc7 kV7 dc7 pm7 cd7 ct7 : Value} {od18 an18 : Option Addr} {sl18 : Array (Option Value)} {oc18 kV18 dc18 pm18 cd18 ct18 : Value} {od8 an8 : Option Addr} {sl8 : Array (Option Value)} {oc8 kV8 dc8 pm8 cd8 ct8 : Value} {od37 an37 : Option Addr} {sl37 : Array (Option Value)} {oc37 kV37 dc37 pm37 cd37 ct37 : Value} {C_BadParts : Addr}
  (a_part : au K mainGlobals "part" = some (some (.ref f_part))) (l_part : K.lookup f_part=some ⟨oc36,od36,.func (aD "part" "part" (z0m z7m) (z0l z7m) (z0b z7m) .none kV36 dc36 pm36 an36 cd36 ct36),sl36⟩) (c_part : ay K cd36 "part" = true) (k_part : av K (.ref f_part)=true)
  (a_picked : au K mainGlobals "picked" = some (some (.ref f_picked))) (l_picked : K.lookup f_picked=some ⟨oc32,od32,.func (aD "picked" "picked" (z0m z4b) (z0l z4b) (z0b z4b) .none kV32 dc32 pm32 an32 cd32 ct32),sl32⟩) (c_picked : ay K cd32 "picked" = true) (k_picked : av K (.ref f_picked)=true)
  (a_beaten_by : au K mainGlobals "beaten_by" = some (some (.ref f_beaten_by))) (l_beaten_by : K.lookup f_beaten_by=some ⟨oc19,od19,.func (aD "beaten_by" "beaten_by" (z0m z1T) (z0l z1T) (z0b z1T) .none kV19 dc19 pm19 an19 cd19 ct19),sl19⟩) (c_beaten_by : ay K cd19 "beaten_by" = true) (k_beaten_by : av K (.ref f_beaten_by)=true)
  (a_beats_all : au K mainGlobals "beats_all" = some (some (.ref f_beats_all))) (l_beats_all : K.lookup f_beats_all=some ⟨oc20,od20,.func (aD "beats_all" "beats_all" (z0m z1S) (z0l z1S) (z0b z1S) .none kV20 dc20 pm20 an20 cd20 ct20),sl20⟩) (c_beats_all : ay K cd20 "beats_all" = true) (k_beats_all : av K (.ref f_beats_all)=true)
  (a_places_true : au K mainGlobals "places_true" = some (some (.ref f_places_true))) (l_places_true : K.lookup f_places_true=some ⟨oc10,od10,.func (aD "places_true" "places_true" (z0m z1m) (z0l z1m) (z0b z1m) .none kV10 dc10 pm10 an10 cd10 ct10),sl10⟩) (c_places_true : ay K cd10 "places_true" = true) (k_places_true : av K (.ref f_places_true)=true)
  (a_reached : au K mainGlobals "reached" = some (some (.ref f_reached))) (l_reached : K.lookup f_reached=some ⟨oc28,od28,.func (aD "reached" "reached" (z0m z2V) (z0l z2V) (z0b z2V) .none kV28 dc28 pm28 an28 cd28 ct28),sl28⟩) (c_reached : ay K cd28 "reached" = true) (k_reached : av K (.ref f_reached)=true)
  (a_steps_from : au K mainGlobals "steps_from" = some (some (.ref f_steps_from))) (l_steps_from : K.lookup f_steps_from=some ⟨oc17,od17,.func (aD "steps_from" "steps_from" (z0m z1E) (z0l z1E) (z0b z1E) .none kV17 dc17 pm17 an17 cd17 ct17),sl17⟩) (c_steps_from : ay K cd17 "steps_from" = true) (k_steps_from : av K (.ref f_steps_from)=true)
  (a_rings : au K mainGlobals "rings" = some (some (.ref f_rings))) (l_rings : K.lookup f_rings=some ⟨oc35,od35,.func (aD "rings" "rings" (z0m z4Z) (z0l z4Z) (z0b z4Z) .none kV35 dc35 pm35 an35 cd35 ct35),sl35⟩) (c_rings : ay K cd35 "rings" = true) (k_rings : av K (.ref f_rings)=true)
  (a_places_with : au K mainGlobals "places_with" = some (some (.ref f_places_with))) (l_places_with : K.lookup f_places_with=some ⟨oc11,od11,.func (aD "places_with" "places_with" (z0m z1l) (z0l z1l) (z0b z1l) .none kV11 dc11 pm11 an11 cd11 ct11),sl11⟩) (c_places_with : ay K cd11 "places_with" = true) (k_places_with : av K (.ref f_places_with)=true)
  (a_stands_together : au K mainGlobals "stands_together" = some (some (.ref f_stands_together))) (l_stands_together : K.lookup f_stands_together=some ⟨oc0,od0,.func (aD "stands_together" "stands_together" (z0m z0G) (z0l z0G) (z0b z0G) .none kV0 dc0 pm0 an0 cd0 ct0),sl0⟩) (c_stands_together : ay K cd0 "stands_together" = true) (k_stands_together : av K (.ref f_stands_together)=true)
  (a_parting : au K mainGlobals "parting" = some (some (.ref f_parting))) (l_parting : K.lookup f_parting=some ⟨oc27,od27,.func (aD "parting" "parting" (z0m z2R) (z0l z2R) (z0b z2R) .none kV27 dc27 pm27 an27 cd27 ct27),sl27⟩) (c_parting : ay K cd27 "parting" = true) (k_parting : av K (.ref f_parting)=true)
  (a_sees_as_one : au K mainGlobals "sees_as_one" = some (some (.ref f_sees_as_one))) (l_sees_as_one : K.lookup f_sees_as_one=some ⟨oc12,od12,.func (aD "sees_as_one" "sees_as_one" (z0m z1p) (z0l z1p) (z0b z1p) .none kV12 dc12 pm12 an12 cd12 ct12),sl12⟩) (c_sees_as_one : ay K cd12 "sees_as_one" = true) (k_sees_as_one : av K (.ref f_sees_as_one)=true)
  (a_closure : au K mainGlobals "closure" = some (some (.ref f_closure))) (l_closure : K.lookup f_closure=some ⟨oc26,od26,.func (aD "closure" "closure" (z0m z2W) (z0l z2W) (z0b z2W) .none kV26 dc26 pm26 an26 cd26 ct26),sl26⟩) (c_closure : ay K cd26 "closure" = true) (k_closure : av K (.ref f_closure)=true)
  (a_parts : au K mainGlobals "parts" = some (some (.ref f_parts))) (l_parts : K.lookup f_parts=some ⟨oc34,od34,.func (aD "parts" "parts" (z0m z5h) (z0l z5h) (z0b z5h) .none kV34 dc34 pm34 an34 cd34 ct34),sl34⟩) (c_parts : ay K cd34 "parts" = true) (k_parts : av K (.ref f_parts)=true)
  (a_greatest_with : au K mainGlobals "greatest_with" = some (some (.ref f_greatest_with))) (l_greatest_with : K.lookup f_greatest_with=some ⟨oc3,od3,.func (aD "greatest_with" "greatest_with" (z0m z0R) (z0l z0R) (z0b z0R) .none kV3 dc3 pm3 an3 cd3 ct3),sl3⟩) (c_greatest_with : ay K cd3 "greatest_with" = true) (k_greatest_with : av K (.ref f_greatest_with)=true)
  (a_leads_to_all : au K mainGlobals "leads_to_all" = some (some (.ref f_leads_to_all))) (l_leads_to_all : K.lookup f_leads_to_all=some ⟨oc6,od6,.func (aD "leads_to_all" "leads_to_all" (z0m z1b) (z0l z1b) (z0b z1b) .none kV6 dc6 pm6 an6 cd6 ct6),sl6⟩) (c_leads_to_all : ay K cd6 "leads_to_all" = true) (k_leads_to_all : av K (.ref f_leads_to_all)=true)
  (a_is_thing : au K mainGlobals "is_thing" = some (some (.ref f_is_thing))) (l_is_thing : K.lookup f_is_thing=some ⟨oc24,od24,.func (aD "is_thing" "is_thing" (z0m z2t) (z0l z2t) (z0b z2t) .none kV24 dc24 pm24 an24 cd24 ct24),sl24⟩) (c_is_thing : ay K cd24 "is_thing" = true) (k_is_thing : av K (.ref f_is_thing)=true)
  (a_tells_each_once : au K mainGlobals "tells_each_once" = some (some (.ref f_tells_each_once))) (l_tells_each_once : K.lookup f_tells_each_once=some ⟨oc1,od1,.func (aD "tells_each_once" "tells_each_once" (z0m z0E) (z0l z0E) (z0b z0E) .none kV1 dc1 pm1 an1 cd1 ct1),sl1⟩) (c_tells_each_once : ay K cd1 "tells_each_once" = true) (k_tells_each_once : av K (.ref f_tells_each_once)=true)
  (a_places_of : au K mainGlobals "places_of" = some (some (.ref f_places_of))) (l_places_of : K.lookup f_places_of=some ⟨oc21,od21,.func (aD "places_of" "places_of" (z0m z2b) (z0l z2b) (z0b z2b) .none kV21 dc21 pm21 an21 cd21 ct21),sl21⟩) (c_places_of : ay K cd21 "places_of" = true) (k_places_of : av K (.ref f_places_of)=true)
  (a_folded : au K mainGlobals "folded" = some (some (.ref f_folded))) (l_folded : K.lookup f_folded=some ⟨oc31,od31,.func (aD "folded" "folded" (z0m z3Q) (z0l z3Q) (z0b z3Q) .none kV31 dc31 pm31 an31 cd31 ct31),sl31⟩) (c_folded : ay K cd31 "folded" = true) (k_folded : av K (.ref f_folded)=true)
  (a_covers : au K mainGlobals "covers" = some (some (.ref f_covers))) (l_covers : K.lookup f_covers=some ⟨oc29,od29,.func (aD "covers" "covers" (z0m z3X) (z0l z3X) (z0b z3X) .none kV29 dc29 pm29 an29 cd29 ct29),sl29⟩) (c_covers : ay K cd29 "covers" = true) (k_covers : av K (.ref f_covers)=true)
  (a_uncovered : au K mainGlobals "uncovered" = some (some (.ref f_uncovered))) (l_uncovered : K.lookup f_uncovered=some ⟨oc22,od22,.func (aD "uncovered" "uncovered" (z0m z1X) (z0l z1X) (z0b z1X) .none kV22 dc22 pm22 an22 cd22 ct22),sl22⟩) (c_uncovered : ay K cd22 "uncovered" = true) (k_uncovered : av K (.ref f_uncovered)=true)
  (a_is_covered : au K mainGlobals "is_covered" = some (some (.ref f_is_covered))) (l_is_covered : K.lookup f_is_covered=some ⟨oc16,od16,.func (aD "is_covered" "is_covered" (z0m z1A) (z0l z1A) (z0b z1A) .none kV16 dc16 pm16 an16 cd16 ct16),sl16⟩) (c_is_covered : ay K cd16 "is_covered" = true) (k_is_covered : av K (.ref f_is_covered)=true)
  (a_is_chain : au K mainGlobals "is_chain" = some (some (.ref f_is_chain))) (l_is_chain : K.lookup f_is_chain=some ⟨oc23,od23,.func (aD "is_chain" "is_chain" (z0m z2s) (z0l z2s) (z0b z2s) .none kV23 dc23 pm23 an23 cd23 ct23),sl23⟩) (c_is_chain : ay K cd23 "is_chain" = true) (k_is_chain : av K (.ref f_is_chain)=true)
  (a_beaters : au K mainGlobals "beaters" = some (some (.ref f_beaters))) (l_beaters : K.lookup f_beaters=some ⟨oc25,od25,.func (aD "beaters" "beaters" (z0m z2O) (z0l z2O) (z0b z2O) .none kV25 dc25 pm25 an25 cd25 ct25),sl25⟩) (c_beaters : ay K cd25 "beaters" = true) (k_beaters : av K (.ref f_beaters)=true)
  (a_stands : au K mainGlobals "stands" = some (some (.ref f_stands))) (l_stands : K.lookup f_stands=some ⟨oc33,od33,.func (aD "stands" "stands" (z0m z3T) (z0l z3T) (z0b z3T) .none kV33 dc33 pm33 an33 cd33 ct33),sl33⟩) (c_stands : ay K cd33 "stands" = true) (k_stands : av K (.ref f_stands)=true)
  (a_crowns : au K mainGlobals "crowns" = some (some (.ref f_crowns))) (l_crowns : K.lookup f_crowns=some ⟨oc30,od30,.func (aD "crowns" "crowns" (z0m z3Z) (z0l z3Z) (z0b z3Z) .none kV30 dc30 pm30 an30 cd30 ct30),sl30⟩) (c_crowns : ay K cd30 "crowns" = true) (k_crowns : av K (.ref f_crowns)=true)
  (a_crown_paper : au K mainGlobals "crown_paper" = some (some (.ref f_crown_paper))) (l_crown_paper : K.lookup f_crown_paper=some ⟨oc9,od9,.func (aD "crown_paper" "crown_paper" (z0m z1k) (z0l z1k) (z0b z1k) .none kV9 dc9 pm9 an9 cd9 ct9),sl9⟩) (c_crown_paper : ay K cd9 "crown_paper" = true) (k_crown_paper : av K (.ref f_crown_paper)=true)
  (a_ended_chains : au K mainGlobals "ended_chains" = some (some (.ref f_ended_chains))) (l_ended_chains : K.lookup f_ended_chains=some ⟨oc5,od5,.func (aD "ended_chains" "ended_chains" (z0m z0K) (z0l z0K) (z0b z0K) .none kV5 dc5 pm5 an5 cd5 ct5),sl5⟩) (c_ended_chains : ay K cd5 "ended_chains" = true) (k_ended_chains : av K (.ref f_ended_chains)=true)
  (a__law_cell_at : au K mainGlobals "_law_cell_at" = some (some (.ref f__law_cell_at))) (l__law_cell_at : K.lookup f__law_cell_at=some ⟨oc4,od4,.func (aD "_law_cell_at" "_law_cell_at" (z0m z1c) (z0l z1c) (z0b z1c) .none kV4 dc4 pm4 an4 cd4 ct4),sl4⟩) (c__law_cell_at : ay K cd4 "_law_cell_at" = true) (k__law_cell_at : av K (.ref f__law_cell_at)=true)
  (a__law_table_by : au K mainGlobals "_law_table_by" = some (some (.ref f__law_table_by))) (l__law_table_by : K.lookup f__law_table_by=some ⟨oc2,od2,.func (aD "_law_table_by" "_law_table_by" (z0m z0S) (z0l z0S) (z0b z0S) .none kV2 dc2 pm2 an2 cd2 ct2),sl2⟩) (c__law_table_by : ay K cd2 "_law_table_by" = true) (k__law_table_by : av K (.ref f__law_table_by)=true)
  (a__law_mixed : au K mainGlobals "_law_mixed" = some (some (.ref f__law_mixed))) (l__law_mixed : K.lookup f__law_mixed=some ⟨oc14,od14,.func (aD "_law_mixed" "_law_mixed" (z0m z1C) (z0l z1C) (z0b z1C) .none kV14 dc14 pm14 an14 cd14 ct14),sl14⟩) (c__law_mixed : ay K cd14 "_law_mixed" = true) (k__law_mixed : av K (.ref f__law_mixed)=true)
  (a__law_beats : au K mainGlobals "_law_beats" = some (some (.ref f__law_beats))) (l__law_beats : K.lookup f__law_beats=some ⟨oc13,od13,.func (aD "_law_beats" "_law_beats" (z0m z1D) (z0l z1D) (z0b z1D) .none kV13 dc13 pm13 an13 cd13 ct13),sl13⟩) (c__law_beats : ay K cd13 "_law_beats" = true) (k__law_beats : av K (.ref f__law_beats)=true)
  (a__law_table : au K mainGlobals "_law_table" = some (some (.ref f__law_table))) (l__law_table : K.lookup f__law_table=some ⟨oc15,od15,.func (aD "_law_table" "_law_table" (z0m z1F) (z0l z1F) (z0b z1F) .none kV15 dc15 pm15 an15 cd15 ct15),sl15⟩) (c__law_table : ay K cd15 "_law_table" = true) (k__law_table : av K (.ref f__law_table)=true)
  (a__law_pieces : au K mainGlobals "_law_pieces" = some (some (.ref f__law_pieces))) (l__law_pieces : K.lookup f__law_pieces=some ⟨oc7,od7,.func (aD "_law_pieces" "_law_pieces" (z0m z1r) (z0l z1r) (z0b z1r) .none kV7 dc7 pm7 an7 cd7 ct7),sl7⟩) (c__law_pieces : ay K cd7 "_law_pieces" = true) (k__law_pieces : av K (.ref f__law_pieces)=true)
  (a__law_part : au K mainGlobals "_law_part" = some (some (.ref f__law_part))) (l__law_part : K.lookup f__law_part=some ⟨oc18,od18,.func (aD "_law_part" "_law_part" (z0m z1Z) (z0l z1Z) (z0b z1Z) .none kV18 dc18 pm18 an18 cd18 ct18),sl18⟩) (c__law_part : ay K cd18 "_law_part" = true) (k__law_part : av K (.ref f__law_part)=true)
  (a__law_within : au K mainGlobals "_law_within" = some (some (.ref f__law_within))) (l__law_within : K.lookup f__law_within=some ⟨oc8,od8,.func (aD "_law_within" "_law_within" (z0m z1s) (z0l z1s) (z0b z1s) .none kV8 dc8 pm8 an8 cd8 ct8),sl8⟩) (c__law_within : ay K cd8 "_law_within" = true) (k__law_within : av K (.ref f__law_within)=true)
  (a_law : au K mainGlobals "law" = some (some (.ref f_law))) (l_law : K.lookup f_law=some ⟨oc37,od37,.func (aD "law" "law" (z0m z7J) (z0l z7J) (z0b z7J) .none kV37 dc37 pm37 an37 cd37 ct37),sl37⟩) (c_law : ay K cd37 "law" = true) (k_law : av K (.ref f_law)=true)
  (x_BadParts : au K mainGlobals "BadParts" = some (some (.ref C_BadParts))) (q_BadParts : dw K C_BadParts bmVE "ValueError.__new__" = true)
  (z_all : au K mainGlobals "all" = some none) (z_enumerate : au K mainGlobals "enumerate" = some none) (z_sorted : au K mainGlobals "sorted" = some none) (z_range : au K mainGlobals "range" = some none) (z_len : au K mainGlobals "len" = some none) (z_any : au K mainGlobals "any" = some none) (z_set : au K mainGlobals "set" = some none) (z_int : au K mainGlobals "int" = some none) (z_isinstance : au K mainGlobals "isinstance" = some none) (z_bool : au K mainGlobals "bool" = some none) (z_min : au K mainGlobals "min" = some none) (z_list : au K mainGlobals "list" = some none) :
  ∃ fd : FuncData,(∀ (s : Shared) (v : Value),BindsTo s fd ⟨[v],[]⟩ [("script",v)])∧∀ base : Heap,K.In base->base.Ns mainGlobals mg->FnOk l.prog w K mg base CX0 16 fa fd ["script"] (y6H K y2t):=by
 have e:=hfa.symm.trans (aG X G a_law)
 cases e
 have T : Txt mg:=⟨bb X G z_all,bb X G z_enumerate,bb X G z_sorted,bb X G z_range,bb X G z_len,bb X G z_any,bb X G z_set,bb X G z_int,bb X G z_isinstance,bb X G z_bool,bb X G z_min,bb X G z_list⟩
 have F_part:=z0z (st:=z7m) l_part c_part k_part
 have b_part:=F_part.binds (ps:=y4y) fun _ _ _ _ _ _ us hl=>by obtain ⟨_,_,rfl⟩:=z6n hl; rfl
 have F_picked:=z0z (st:=z4b) l_picked c_picked k_picked
 have b_picked:=F_picked.binds (ps:=z8o) fun _ _ _ _ _ _ us hl=>by obtain ⟨_,_,rfl⟩:=z6n hl; rfl
 have F_beaten_by:=z0z (st:=z1T) l_beaten_by c_beaten_by k_beaten_by
 have b_beaten_by:=F_beaten_by.binds (ps:=z4l) fun _ _ _ _ _ _ us hl=>by obtain ⟨_,_,rfl⟩:=z6n hl; rfl
 have F_beats_all:=z0z (st:=z1S) l_beats_all c_beats_all k_beats_all
 have b_beats_all:=F_beats_all.binds (ps:=z4t) fun _ _ _ _ _ _ us hl=>by obtain ⟨_,_,_,rfl⟩:=y8H hl; rfl
 have F_places_true:=z0z (st:=z1m) l_places_true c_places_true k_places_true
 have b_places_true:=F_places_true.binds (ps:=z3j) fun _ _ _ _ _ _ us hl=>by obtain ⟨_,rfl⟩:=y5L hl; rfl
 have F_reached:=z0z (st:=z2V) l_reached c_reached k_reached
 have b_reached:=F_reached.binds (ps:=z5Q) fun _ _ _ _ _ _ us hl=>by obtain ⟨_,_,rfl⟩:=z6n hl; rfl
 have F_steps_from:=z0z (st:=z1E) l_steps_from c_steps_from k_steps_from
 have b_steps_from:=F_steps_from.binds (ps:=z3D) fun _ _ _ _ _ _ us hl=>by obtain ⟨_,_,rfl⟩:=z6n hl; rfl
 have F_rings:=z0z (st:=z4Z) l_rings c_rings k_rings
 have b_rings:=F_rings.binds (ps:=y0D) fun _ _ _ _ _ _ us hl=>by obtain ⟨_,rfl⟩:=y5L hl; rfl
 have F_places_with:=z0z (st:=z1l) l_places_with c_places_with k_places_with
 have b_places_with:=F_places_with.binds (ps:=z3d) fun _ _ _ _ _ _ us hl=>by obtain ⟨_,_,rfl⟩:=z6n hl; rfl
 have F_stands_together:=z0z (st:=z0G) l_stands_together c_stands_together k_stands_together
 have b_stands_together:=F_stands_together.binds (ps:=z1W) fun _ _ _ _ _ _ us hl=>by obtain ⟨_,_,rfl⟩:=z6n hl; rfl
 have F_parting:=z0z (st:=z2R) l_parting c_parting k_parting
 have b_parting:=F_parting.binds (ps:=z6d) fun _ _ _ _ _ _ us hl=>by obtain ⟨_,_,rfl⟩:=z6n hl; rfl
 have F_sees_as_one:=z0z (st:=z1p) l_sees_as_one c_sees_as_one k_sees_as_one
 have b_sees_as_one:=F_sees_as_one.binds (ps:=z3n) fun _ _ _ _ _ _ us hl=>by obtain ⟨_,_,_,rfl⟩:=y8H hl; rfl
 have F_closure:=z0z (st:=z2W) l_closure c_closure k_closure
 have b_closure:=F_closure.binds (ps:=z6x) fun _ _ _ _ _ _ us hl=>by obtain ⟨_,_,rfl⟩:=z6n hl; rfl
 have F_parts:=z0z (st:=z5h) l_parts c_parts k_parts
 have b_parts:=F_parts.binds (ps:=y0P) fun _ _ _ _ _ _ us hl=>by obtain ⟨_,rfl⟩:=y5L hl; rfl
 have F_greatest_with:=z0z (st:=z0R) l_greatest_with c_greatest_with k_greatest_with
 have b_greatest_with:=F_greatest_with.binds (ps:=z2w) fun _ _ _ _ _ _ us hl=>by obtain ⟨_,_,rfl⟩:=z6n hl; rfl
 have F_leads_to_all:=z0z (st:=z1b) l_leads_to_all c_leads_to_all k_leads_to_all
 have b_leads_to_all:=F_leads_to_all.binds (ps:=z2H) fun _ _ _ _ _ _ us hl=>by obtain ⟨_,_,_,rfl⟩:=y8H hl; rfl
 have F_is_thing:=z0z (st:=z2t) l_is_thing c_is_thing k_is_thing
 have b_is_thing:=F_is_thing.binds (ps:=z5n) fun _ _ _ _ _ _ us hl=>by obtain ⟨_,_,rfl⟩:=z6n hl; rfl
 have F_tells_each_once:=z0z (st:=z0E) l_tells_each_once c_tells_each_once k_tells_each_once
 have b_tells_each_once:=F_tells_each_once.binds (ps:=z1R) fun _ _ _ _ _ _ us hl=>by obtain ⟨_,_,rfl⟩:=z6n hl; rfl
 have F_places_of:=z0z (st:=z2b) l_places_of c_places_of k_places_of
 have b_places_of:=F_places_of.binds (ps:=z3r) fun _ _ _ _ _ _ us hl=>by obtain ⟨_,_,rfl⟩:=z6n hl; rfl
 have F_folded:=z0z (st:=z3Q) l_folded c_folded k_folded
 have b_folded:=F_folded.binds (ps:=z5O) fun _ _ _ _ _ _ us hl=>by obtain ⟨_,_,rfl⟩:=z6n hl; rfl
 have F_covers:=z0z (st:=z3X) l_covers c_covers k_covers
 have b_covers:=F_covers.binds (ps:=z7I) fun _ _ _ _ _ _ us hl=>by obtain ⟨_,_,_,rfl⟩:=y8H hl; rfl
 have F_uncovered:=z0z (st:=z1X) l_uncovered c_uncovered k_uncovered
 have b_uncovered:=F_uncovered.binds (ps:=z4y) fun _ _ _ _ _ _ us hl=>by obtain ⟨_,rfl⟩:=y5L hl; rfl
 have F_is_covered:=z0z (st:=z1A) l_is_covered c_is_covered k_is_covered
 have b_is_covered:=F_is_covered.binds (ps:=z3M) fun _ _ _ _ _ _ us hl=>by obtain ⟨_,_,rfl⟩:=z6n hl; rfl
 have F_is_chain:=z0z (st:=z2s) l_is_chain c_is_chain k_is_chain
 have b_is_chain:=F_is_chain.binds (ps:=z5o) fun _ _ _ _ _ _ us hl=>by obtain ⟨_,_,rfl⟩:=z6n hl; rfl
 have F_beaters:=z0z (st:=z2O) l_beaters c_beaters k_beaters
 have b_beaters:=F_beaters.binds (ps:=z5S) fun _ _ _ _ _ _ us hl=>by obtain ⟨_,_,rfl⟩:=z6n hl; rfl
 have F_stands:=z0z (st:=z3T) l_stands c_stands k_stands
 have b_stands:=F_stands.binds (ps:=z7O) fun _ _ _ _ _ _ us hl=>by obtain ⟨_,_,rfl⟩:=z6n hl; rfl
 have F_crowns:=z0z (st:=z3Z) l_crowns c_crowns k_crowns
 have b_crowns:=F_crowns.binds (ps:=z7u) fun _ _ _ _ _ _ us hl=>by obtain ⟨_,rfl⟩:=y5L hl; rfl
 have F_crown_paper:=z0z (st:=z1k) l_crown_paper c_crown_paper k_crown_paper
 have b_crown_paper:=F_crown_paper.binds (ps:=z3c) fun _ _ _ _ _ _ us hl=>by obtain ⟨_,_,rfl⟩:=z6n hl; rfl
 have F_ended_chains:=z0z (st:=z0K) l_ended_chains c_ended_chains k_ended_chains
 have b_ended_chains:=F_ended_chains.binds (ps:=z2f) fun _ _ _ _ _ _ us hl=>by obtain ⟨_,_,_,rfl⟩:=y8H hl; rfl
 have F__law_cell_at:=z0z (st:=z1c) l__law_cell_at c__law_cell_at k__law_cell_at
 have b__law_cell_at:=F__law_cell_at.binds (ps:=z2M) fun _ _ _ _ _ _ us hl=>by obtain ⟨_,_,rfl⟩:=z6n hl; rfl
 have F__law_table_by:=z0z (st:=z0S) l__law_table_by c__law_table_by k__law_table_by
 have b__law_table_by:=F__law_table_by.binds (ps:=z2x) fun _ _ _ _ _ _ us hl=>by obtain ⟨_,_,rfl⟩:=z6n hl; rfl
 have F__law_mixed:=z0z (st:=z1C) l__law_mixed c__law_mixed k__law_mixed
 have b__law_mixed:=F__law_mixed.binds (ps:=z3P) fun _ _ _ _ _ _ us hl=>by obtain ⟨_,rfl⟩:=y5L hl; rfl
 have F__law_beats:=z0z (st:=z1D) l__law_beats c__law_beats k__law_beats
 have b__law_beats:=F__law_beats.binds (ps:=z3K) fun _ _ _ _ _ _ us hl=>by obtain ⟨_,_,_,rfl⟩:=y8H hl; rfl
 have F__law_table:=z0z (st:=z1F) l__law_table c__law_table k__law_table
 have b__law_table:=F__law_table.binds (ps:=z3G) fun _ _ _ _ _ _ us hl=>by obtain ⟨_,rfl⟩:=y5L hl; rfl
 have F__law_pieces:=z0z (st:=z1r) l__law_pieces c__law_pieces k__law_pieces
 have b__law_pieces:=F__law_pieces.binds (ps:=z3a) fun _ _ _ _ _ _ us hl=>by obtain ⟨_,rfl⟩:=y5L hl; rfl
 have F__law_part:=z0z (st:=z1Z) l__law_part c__law_part k__law_part
 have b__law_part:=F__law_part.binds (ps:=z4m) fun _ _ _ _ _ _ us hl=>by obtain ⟨_,_,rfl⟩:=z6n hl; rfl
 have F__law_within:=z0z (st:=z1s) l__law_within c__law_within k__law_within
 have b__law_within:=F__law_within.binds (ps:=z3o) fun _ _ _ _ _ _ us hl=>by obtain ⟨_,_,_,rfl⟩:=y8H hl; rfl
 have F_law:=z0z (st:=z7J) l_law c_law k_law
 have b_law:=F_law.binds (ps:=P_law) fun _ _ _ _ _ _ us hl=>by obtain ⟨_,rfl⟩:=y5L hl; rfl
 refine ⟨aD "law" "law" (z0m z7J) (z0l z7J) (z0b z7J) .none kV37 dc37 pm37 an37 cd37 ct37,fun s v=>.of_eq rfl,fun base KB GB=>?_⟩
 let cl : Nat->Value:=fun n=>match n with | 1=>.ref C_BadParts | _=>.none
 have Z : Cls K mg base cl:=⟨⟨C_BadParts,rfl,own_mk KB GB x_BadParts q_BadParts,x_BadParts,trivial⟩⟩
 have G_picked : DefOk l.prog w K mg base 1 "picked" (spN K z3Y):=y5E F_picked (aG X G a_picked) b_picked T
 have G_part : DefOk l.prog w K mg base 2 "part" (spN K z9b):=ok_part F_part (aG X G a_part) b_part T G_picked
 have G_beats_all : DefOk l.prog w K mg base 1 "beats_all" (spN K z0L):=z9e F_beats_all (aG X G a_beats_all) b_beats_all T
 have G_places_true : DefOk l.prog w K mg base 1 "places_true" (spN K z1H):=z6I F_places_true (aG X G a_places_true) b_places_true T
 have G_beaten_by : DefOk l.prog w K mg base 2 "beaten_by" (spN K z0M):=z9N F_beaten_by (aG X G a_beaten_by) b_beaten_by T G_places_true
 have G_steps_from : DefOk l.prog w K mg base 3 "steps_from" (spN K z2h):=z7v F_steps_from (aG X G a_steps_from) b_steps_from T G_beaten_by
 have G_reached : DefOk l.prog w K mg base 4 "reached" (spN K z2S):=y2G F_reached (aG X G a_reached) b_reached T G_steps_from
 have G_places_with : DefOk l.prog w K mg base 1 "places_with" (spN K z1n):=z6H F_places_with (aG X G a_places_with) b_places_with T
 have G_rings : DefOk l.prog w K mg base 5 "rings" (spN K z5d):=y6x F_rings (aG X G a_rings) b_rings T G_reached G_places_with
 have G_sees_as_one : DefOk l.prog w K mg base 1 "sees_as_one" (spN K z1N):=z6O F_sees_as_one (aG X G a_sees_as_one) b_sees_as_one T
 have G_parting : DefOk l.prog w K mg base 2 "parting" (spN K z1G):=y2C F_parting (aG X G a_parting) b_parting T G_sees_as_one
 have G_stands_together : DefOk l.prog w K mg base 3 "stands_together" (spN K z0F):=z4Q F_stands_together (aG X G a_stands_together) b_stands_together T G_parting
 have G_closure : DefOk l.prog w K mg base 3 "closure" (spN K z3F):=y2L F_closure (aG X G a_closure) b_closure T G_parting
 have G_leads_to_all : DefOk l.prog w K mg base 4 "leads_to_all" (spN K z1a):=z6p F_leads_to_all (aG X G a_leads_to_all) b_leads_to_all T G_closure
 have G_greatest_with : DefOk l.prog w K mg base 5 "greatest_with" (spN K z1e):=z5x F_greatest_with (aG X G a_greatest_with) b_greatest_with T G_leads_to_all
 have G_parts : DefOk l.prog w K mg base 6 "parts" (spN K z4z):=y6T F_parts (aG X G a_parts) b_parts T G_rings G_greatest_with
 have G_is_thing : DefOk l.prog w K mg base 1 "is_thing" (spN K z2U):=y0r F_is_thing (aG X G a_is_thing) b_is_thing T
 have G_tells_each_once : DefOk l.prog w K mg base 2 "tells_each_once" (spN K z0U):=z4N F_tells_each_once (aG X G a_tells_each_once) b_tells_each_once T G_is_thing
 have G_places_of : DefX l.prog w K mg base 3 "places_of" (spX K cl z2a):=z9K F_places_of (aG X G a_places_of) b_places_of T Z G_tells_each_once
 have G_folded : DefX l.prog w K mg base 4 "folded" (spX K cl z4S):=y3l F_folded (aG X G a_folded) b_folded T Z G_part G_stands_together G_places_of
 have G_covers : DefOk l.prog w K mg base 3 "covers" (spN K z4D):=y3S F_covers (aG X G a_covers) b_covers T G_beats_all G_beaten_by
 have G_is_covered : DefOk l.prog w K mg base 4 "is_covered" (spN K z2k):=z7T F_is_covered (aG X G a_is_covered) b_is_covered T G_covers
 have G_uncovered : DefOk l.prog w K mg base 5 "uncovered" (spN K z1j):=z8E F_uncovered (aG X G a_uncovered) b_uncovered T G_is_covered
 have G_is_chain : DefOk l.prog w K mg base 2 "is_chain" (spN K z2P):=y0L F_is_chain (aG X G a_is_chain) b_is_chain T G_beats_all
 have G_beaters : DefOk l.prog w K mg base 2 "beaters" (spN K z2g):=y2O F_beaters (aG X G a_beaters) b_beaters T G_beats_all
 have G_stands : DefOk l.prog w K mg base 3 "stands" (spN K z3R):=y2R F_stands (aG X G a_stands) b_stands T G_is_chain G_beaters
 have G_ended_chains : DefOk l.prog w K mg base 13 "ended_chains" (spM2 K z1w):=z6A F_ended_chains (aG X G a_ended_chains) b_ended_chains T
 have G_crown_paper : DefOk l.prog w K mg base 14 "crown_paper" (spR K z1o):=z6G F_crown_paper (aG X G a_crown_paper) b_crown_paper T G_beaten_by G_beaters G_stands G_ended_chains
 have G_crowns : DefOk l.prog w K mg base 15 "crowns" (spN K z2E):=y5e F_crowns (aG X G a_crowns) b_crowns T G_crown_paper
 have G__law_cell_at : DefOk l.prog w K mg base 1 "_law_cell_at" (spN K z0p):=z5X F__law_cell_at (aG X G a__law_cell_at) b__law_cell_at T
 have G__law_table_by : DefOk l.prog w K mg base 1 "_law_table_by" (spN K z0Q):=z5y F__law_table_by (aG X G a__law_table_by) b__law_table_by T
 have G__law_mixed : DefOk l.prog w K mg base 2 "_law_mixed" (spN K z1B):=z8g F__law_mixed (aG X G a__law_mixed) b__law_mixed T G__law_cell_at G__law_table_by
 have G__law_beats : DefOk l.prog w K mg base 1 "_law_beats" (spN K z2j):=z8i F__law_beats (aG X G a__law_beats) b__law_beats T
 have G__law_table : DefOk l.prog w K mg base 2 "_law_table" (spN K z2i):=z8n F__law_table (aG X G a__law_table) b__law_table T G__law_beats
 have G__law_pieces : DefOk l.prog w K mg base 1 "_law_pieces" (spN K z1J):=z6R F__law_pieces (aG X G a__law_pieces) b__law_pieces T
 have G__law_part : DefOk l.prog w K mg base 1 "_law_part" (spN K z2c):=z8J F__law_part (aG X G a__law_part) b__law_part T
 have G__law_within : DefOk l.prog w K mg base 1 "_law_within" (spN K z0Z):=z6J F__law_within (aG X G a__law_within) b__law_within T
 exact law_of (ok_law F_law T Z G_parts G_folded G_uncovered G_crowns G__law_mixed G__law_table G__law_pieces G__law_part G__law_within)
theorem walk {l : c7} {q : Program} {loose : List Str} {XP : (Str->Option Value)->Heap->Prop} {YP : World->Heap->Prop} {d : DefRec} {K : Params->aa} (hn : l.most=some 63) (hdf : d.params.defaults=[])
  (hlaw : ∀ ns : List Int,ns.length≤63->y2t [.scr ns]=some (.bl true)) (hY : ∀ (w : World) (h : Heap),YP w h->(K w.params).In h)
  (F : ∀ (w : World) (mg : Str->Option Value) (fa : Addr) (h : Heap),(K w.params).In h->h.Ns mainGlobals mg->mg d.name=some (.ref fa) →
   ∃ fd : FuncData,(∀ (s : Shared) (u : Value),BindsTo s fd ⟨[u],[]⟩ [("script",u)])∧∀ base : Heap,(K w.params).In base->base.Ns mainGlobals mg->FnOk l.prog w (K w.params) mg base CX0 16 fa fd ["script"] (y6H (K w.params) y2t)) :
  PySem.W.WalkO q loose XP YP l.row.toRowW d [] (fun f vs=>PySem.call f vs):=
 L2.walk_of (n:=63) (k:=16) (x := "script") (CX:=fun _=>CX0) (sp:=fun w=>y6H (K w.params) y2t) hn (by decide) hdf ⟨rfl,by decide,by decide⟩ hY F (fun _ _ a ns hl hO hS=>⟨a,ns,rfl,y7w hO hS,hlaw ns hl,fun _=>rfl⟩) fun _ _ _ _ _ z=>z
end Prg
namespace Prg
open PySem L2
open Lean in
local macro_rules
 | `(tactic| simp! only [$xs,*] $[$loc]?)=>do
  let a ← (("ev_var0 ev_varS ev_C ev_d2 ev_d1 ev_test y5T ev_andT ev_orT ev_notT ev_and ev_or y7e y6Y ev_call y7S ev_mkL ev_mkT y4N ev_is ev_seq ev_rng1 ev_rng2 ev_comp ev_part y4Q ev_cut ev_seqO ev_skip ev_asgS ev_asgI ev_asgN ev_retI ev_retN ev_retS ev_retO ev_ifO ev_forO ev_frz ev_st0 ev_st1 ev_m0 y5Q y6b ev_enum y5V ev_din' ev_dnin ev_dput ev_cat y6v ev_mov y6D y7N y6O y6X y7T ev_rngN ev_rep y7c ev_ret3 ev_forI y6n ev_iv1 y3v eo_cM2 ev_ret1 eo_r1 ev_appO y6A eo_2 eo_and eo_or eo_andT eo_orT eo_itet eo_itef eo_cons eo_nx eo_rt eo_set eo_rtO eo_for eo_immI eo_immB eo_part eo_put eo_in eo_mov y7I eo_for2 eo_val eo_xeV eo_r3 eo_forI y8h ea_mkD1 ea_add ea_sub ea_lt ea_le ea_gt ea_eqI ea_neI ea_neg ea_not ea_truB ea_seqL ea_lenR ea_ixL ea_ixR ea_isBI ea_isII ea_asB es_own0 es_ownS es_all0 es_allS es_sh0 es_shS es_v1 es_v2 es_shO y7F y6M y2U y5H y7z es_ow0 es_owS es_frz0 es_frzS eb_bs eb_ms eb_mn eb_s0 eb_sS eb_mc eb_mnil eb_rS eb_r0 eb_ca eb_na".splitOn " ").toArray).mapM fun s=>`(Lean.Parser.Tactic.simpLemma| $(mkIdent s.toName):term)
  let b : Syntax.TSepArray [`Lean.Parser.Tactic.simpStar,`Lean.Parser.Tactic.simpErase,`Lean.Parser.Tactic.simpLemma] "," := ⟨(Syntax.TSepArray.ofElems (sep := ",") a).elemsAndSeps⟩
  `(tactic| simp only [$b,*,$xs,*] $[$loc]?)
open Lean in
local macro_rules
 | `(tactic| simp_all! only [$xs,*])=>do
  let a ← (("Int.reduceEq Int.reduceLT Int.reduceLE Int.reduceGT Int.reduceAdd Int.reduceSub Int.reduceMul Int.reduceNeg decide_true decide_false Bool.or_false Bool.false_or Bool.or_true Bool.true_or Bool.and_true Bool.true_and Bool.and_false Bool.false_and Bool.not_true Bool.not_false".splitOn " ").toArray).mapM fun s=>`(Lean.Parser.Tactic.simpLemma| $(mkIdent s.toName):term)
  let b : Syntax.TSepArray [`Lean.Parser.Tactic.simpStar,`Lean.Parser.Tactic.simpErase,`Lean.Parser.Tactic.simpLemma] "," := ⟨(Syntax.TSepArray.ofElems (sep := ",") a).elemsAndSeps⟩
  `(tactic| simp! only [$b,*,$xs,*])
theorem z7q (ns : List Int) (k : Nat) : ∃ c : Int,z0p [.scr ns,.int (k : Int)]=some (.int c):=by
 by_cases h : k < ns.length
 ·refine ⟨ns[k],z0D rfl ?_⟩
  have h' : decide ((k : Int) < (ns.length : Int))=true:=by simp; omega
  simp! only [z2d,h',at_nat h,z0e]
 ·refine ⟨0,z0D rfl ?_⟩
  have h' : decide ((k : Int) < (ns.length : Int))=false:=by simp; omega
  simp! only [z2d,h',z0e]
structure Full (m : Nat) (T : List (List Bool)) : Prop where
 sq : Sq m T
 own : ∀ i < m,at2 T i i=false
 two : ∀ i < m,∀ j < m,i≠j->at2 T i j = !at2 T j i
theorem y4U {m i j : Nat} : at2 (aj m (aj m false)) i j=false:=by
 unfold at2
 simp only [be,bI]
 by_cases h : i < m
 ·simp only [h,if_true,cF,bI]
  by_cases h2 : j < m <;> simp [h2]
 ·simp [h]
theorem y3C {T : List (List Bool)} {i j a b : Nat} {v : Bool} (hi : i < T.length) (hj : j < T[i].length) : at2 (T.set i (T[i].set j v)) a b=if a=i∧b=j then v else at2 T a b:=by
 unfold at2
 by_cases h : a=i
 ·subst h
  simp only [be,cK hi,cF,ae hi]
  by_cases h2 : b=j
  ·subst h2
   simp [hj]
  ·simp [h2,bg (Ne.symm h2)]
 ·simp only [be,bg (Ne.symm h)]
  simp [h]
structure Up (m : Nat) (T : List (List Bool)) (n n2 : Nat) : Prop where
 own : ∀ i < m,at2 T i i=false
 two : ∀ i j,i < j->j < m->i < n∨(i=n∧j < n2)->at2 T i j = !at2 T j i
theorem up0 {m : Nat} : Up m (aj m (aj m false)) 0 0:=⟨fun _ _=>y4U,fun _ _ _ _ h=>by omega⟩
theorem Up.begin {m n : Nat} {T : List (List Bool)} (F : Up m T n 0) : Up m T n (n + 1):=⟨F.own,fun i j h1 h2 h=>F.two i j h1 h2 (by omega)⟩
theorem Up.row {m n : Nat} {T : List (List Bool)} (F : Up m T n m) : Up m T (n + 1) 0:=⟨F.own,fun i j h1 h2 h=>F.two i j h1 h2 (by omega)⟩
theorem Up.full {m : Nat} {T : List (List Bool)} (F : Up m T m 0) (sq : Sq m T) : Full m T:=⟨sq,F.own,fun i hi j hj hij=>by
 by_cases h : i < j
 ·exact F.two i j h hj (.inl hi)
 ·rw [F.two j i (by omega) hi (.inl hj),Bool.not_not]⟩
theorem Up.next {m n j : Nat} {T : List (List Bool)} {b : Int} (F : Up m T n j) (sq : Sq m T) (hnj : n < j) (hj : j < m) (hb : b=0∨b=1) (h1 : n < T.length) (h3 : j < (T.set n (T[n].set j (decide (b=0)))).length) :
  Up m ((T.set n (T[n].set j (decide (b=0)))).set j ((T.set n (T[n].set j (decide (b=0))))[j].set n (decide (b=1)))) n (j + 1):=by
 have h2 : j < T[n].length:=by rw [sq.row h1]; exact hj
 have sq1 : Sq m (T.set n (T[n].set j (decide (b=0)))):=sq.set h1
 have h4 : n < (T.set n (T[n].set j (decide (b=0))))[j].length:=by rw [sq1.row h3]; omega
 have e : ∀ x y,at2 ((T.set n (T[n].set j (decide (b=0)))).set j ((T.set n (T[n].set j (decide (b=0))))[j].set n (decide (b=1)))) x y=if x=j∧y=n then decide (b=1) else if x=n∧y=j then decide (b=0) else at2 T x y:=fun x y=>by
  rw [y3C h3 h4,y3C h1 h2]
 refine ⟨fun i hi=>?_,fun i k hik hk h=>?_⟩
 ·rw [e,if_neg (by omega),if_neg (by omega)]
  exact F.own i hi
 ·rw [e,e]
  by_cases z : i=n∧k=j
  ·obtain ⟨rfl,rfl⟩:=z
   rw [if_neg (by omega),if_pos ⟨rfl,rfl⟩,if_pos ⟨rfl,rfl⟩]
   rcases hb with rfl | rfl <;> rfl
  ·rw [if_neg (by omega),if_neg z,if_neg (by omega),if_neg (by omega)]
   exact F.two i k hik hk (by omega)
theorem tab6 {m : Nat} (hm : m≤1000) {x0 : Option D} {a2 a3 a4 a5 : Option D} : z1Q (some (z4A 0 m)) (z2m z2Y (z0v (dRep (mkL (z0q [dC (.bl false)])) (z0d 1))) [x0,some (.int (m : Int)),a2,a3,a4,a5])=some ((aj m (aj m false)).map z3A):=by
 rw [z3l,z2o (fun _=>z3A (aj m false)) (by simp; omega) fun x hx=>?_]
 ·congr 1
  apply de <;> simp
 ·have e : (aj m (D.bl false))=(aj m false).map bD:=by rw [eJ]; rfl
  simp! only [y5b (show m≤1000000 by omega),e,z3i (z1y _)]
  rfl
theorem z7n (c : Int) (m : Nat) (hm : m≤8) : hol (z0Q [.int c,.int (m : Int)]) fun d=>∃ T,d=z0B T∧Full m T:=by
 refine z8v rfl ?_
 have f1 : mulI (.int c) (.int 48271)=some (.int (c * 48271)):=ea_mul (.inr (by omega))
 obtain ⟨r0,f2⟩ : ∃ r0 : Int,z9w (.int (c * 48271)) (.int 2147483647)=some (.int r0):=⟨_,z6y (by omega)⟩
 have tl : D.lst ((aj m (aj m false)).map z3A)=z0B (aj m (aj m false)):=rfl
 simp! only [z2u,f1,f2,z2q (show m≤1000000 by omega),tab6 (show m≤1000 by omega),tl]
 refine z0H (I:=fun s=>∃ (T : List (List Bool)) (o3 o4 o5 : Option SD),s=[some (.sh (.int c)),some (.sh (.int (m : Int))),some (.ow (z0B T)),o3,o4,o5]∧Full m T) ?_ ?_
 ·refine z5j (fun n s=>∃ (T : List (List Bool)) (a : Int) (o4 o5 : Option SD),s=[some (.sh (.int c)),some (.sh (.int (m : Int))),some (.ow (z0B T)),some (.sh (.int a)),o4,o5]∧Sq m T∧Up m T n 0) ?_ ?_ ?_
  ·exact ⟨_,r0,none,none,rfl,⟨by simp,by simp⟩,up0⟩
  ·rintro n hn s ⟨T,a,o4,o5,rfl,sq,F⟩
   have hr2 : rng2 (some (.int ((n : Int) + 1))) (some (.int (m : Int)))=some (z4A ((n : Int) + 1) ((m : Int) - ((n : Int) + 1)).toNat):=eo_rng2 ⟨by omega,by omega,by omega,by omega⟩
   simp! only [cb,hr2]
   refine z5j (fun n2 s=>∃ (T : List (List Bool)) (a : Int) (o5 : Option SD),s=[some (.sh (.int c)),some (.sh (.int (m : Int))),some (.ow (z0B T)),some (.sh (.int a)),some (.sh (.int (n : Int))),o5]∧Sq m T∧Up m T n (n + 1 + n2)) ?_ ?_ ?_
   ·exact ⟨T,a,o5,rfl,sq,F.begin⟩
   ·rintro n2 hn2 s ⟨T,a,o5,rfl,sq,F⟩
    obtain ⟨j,hj⟩ : ∃ j : Nat,j=n + 1 + n2:=⟨_,rfl⟩
    have hj' : (n : Int) + 1 + (n2 : Int)=(j : Int):=by omega
    have hjm : j < m:=by omega
    rw [← hj] at F
    obtain ⟨r,hr3,hb⟩ : ∃ r : Int,z9w (.int a) (.int 2)=some (.int r)∧(r=0∨r=1):=⟨_,z6y (by omega),Int.emod_two_eq _⟩
    obtain ⟨b,g2⟩ : ∃ b : Int,y5K (.int a) (.int 2)=some (.int b):=⟨_,y1V ⟨by omega,by omega⟩⟩
    have h1 : n < T.length:=by rw [sq.1]; exact hn
    have h2 : j < T[n].length:=by rw [sq.row h1]; exact hjm
    have e1:=y1U (v:=decide (r=0)) h1 h2
    have sq1 : Sq m (T.set n (T[n].set j (decide (r=0)))):=sq.set h1
    have h3 : j < (T.set n (T[n].set j (decide (r=0)))).length:=by rw [sq1.1]; exact hjm
    have h4 : n < (T.set n (T[n].set j (decide (r=0))))[j].length:=by rw [sq1.row h3]; exact hn
    have e2:=y1U (v:=decide (r=1)) h3 h4
    simp! only [hj',g2,hr3,e1,e2,z0e]
    have F2:=F.next sq (by omega) hjm hb h1 h3
    have ej : n + 1 + (n2 + 1)=j + 1:=by omega
    rw [ej]
    exact ⟨_,_,_,rfl,sq1.set h3,F2⟩
   ·rintro s ⟨T,a,o5,rfl,sq,F⟩
    have hz : n + 1 + ((m : Int) - ((n : Int) + 1)).toNat=m:=by omega
    rw [hz] at F
    exact ⟨T,_,_,_,rfl,sq,F.row⟩
  ·rintro s ⟨T,a,o4,o5,rfl,sq,F⟩
   exact ⟨_,rfl,T,_,_,_,rfl,F.full sq⟩
 ·rintro s ⟨T,o3,o4,o5,rfl,F⟩
  simp! only [z0e]
  exact ⟨_,rfl,T,rfl,F⟩
noncomputable def prD (z : Nat × Nat) : D:=.tup [.int (z.1 : Int),.int (z.2 : Int)]
noncomputable def y3b (hs : List (Nat × Nat)) : D:=.lst (hs.map prD)
noncomputable def z4R (Is : List (List (List Bool))) : D:=.lst (Is.map z0B)
theorem y0U {hs : List (Nat × Nat)} : z3z [y3b hs]=some (.int (hs.length : Int)):=len_map
structure Part (Is : List (List (List Bool))) (hs : List (Nat × Nat)) : Prop where
 inn : ∀ k,k < Is.length->Full (Is.getD k []).length (Is.getD k [])∧0 < (Is.getD k []).length
 mem : ∀ z,z∈hs↔z.1 < Is.length∧z.2 < (Is.getD z.1 []).length
 nd : hs.Nodup
structure Mix (O : List (List Bool)) (Is : List (List (List Bool))) (hs : List (Nat × Nat)) : Prop where
 out : Full O.length O
 pos : 0 < O.length
 o8 : O.length≤8
 len : Is.length=O.length
 prt : Part Is hs
 le : hs.length≤8
theorem z9r {α : Type} {xs : List α} {x d : α} {k : Nat} : (xs ++ [x]).getD k d=if k < xs.length then xs.getD k d else if k=xs.length then x else d:=by
 by_cases h : k < xs.length
 ·rw [if_pos h]
  simp [be,a9 h]
 ·rw [if_neg h]
  by_cases h2 : k=xs.length
  ·subst h2
   simp [be]
  ·rw [if_neg h2]
   have : (xs ++ [x])[k]? = none:=by rw [List.getElem?_eq_none_iff]; simp; omega
   simp [be,this]
theorem y7K (ns : List Int) : hol (z1B [.scr ns]) fun d=>∃ O Is hs,d = .lst [z0B O,z4R Is,y3b hs]∧Mix O Is hs:=by
 refine z8v rfl ?_
 obtain ⟨c0,e0⟩:=z7q ns 0
 have e0 : z0p [.scr ns,.int 0]=some (.int c0):=e0
 obtain ⟨c1,e1⟩:=z7q ns 1
 have e1 : z0p [.scr ns,.int 1]=some (.int c1):=e1
 obtain ⟨k,ek,hk⟩:=z7p (x:=c0) (n:=4) (by omega)
 have f1 : z9w (.int c0) (.int 4)=some (.int (k : Int)):=by rw [z6y (by omega)]; exact congrArg _ (congrArg _ ek)
 have f2 : y5K (.int c0) (.int 4)=some (.int (c0 / 4)):=y1V ⟨by omega,by omega⟩
 obtain ⟨r,f3⟩ : ∃ r : Int,z9w (.int (c0 / 4)) (.int 4)=some (.int r):=⟨_,z6y (by omega)⟩
 have nil1 : D.lst []=z4R []:=rfl
 simp! only [z3E,e0,f1,f2,f3]
 refine z0H (I:=fun s=>∃ m : Nat,s=[some (.sh (.scr ns)),some (.sh (.int (m : Int))),none,none,none,none,none,none,none,none,none]∧0 < m∧m≤8) ?_ ?_
 ·by_cases hr : r=1
  ·simp! only [hr,decide_true,z0e]
   exact ⟨_,rfl,1 + k + 4,by congr 3,by omega,by omega⟩
  ·simp! only [decide_eq_false hr,z0e]
   exact ⟨_,rfl,1 + k,by congr 3,by omega,by omega⟩
 rintro s ⟨m,rfl,h0,h8⟩
 obtain ⟨_,e2,O,rfl,F⟩:=z7n c1 m h8
 have hO : O.length=m:=F.sq.1
 simp! only [e1,e2,z2F,z1P,hO,y3e (show m≤1000000 by omega)]
 refine z0H (I:=fun s=>∃ (Is : List (List (List Bool))) (hs : List (Nat × Nat)) (o5 o6 o7 o8 o9 o10 : Option SD),s=[some (.sh (.scr ns)),some (.sh (.int (m : Int))),some (.ow (z0B O)),some (.ow (z4R Is)),some (.ow (y3b hs)),o5,o6,o7,o8,o9,o10]∧Is.length=m∧Part Is hs∧hs.length≤8) ?_ ?_
 ·refine z5j (fun n s=>∃ (Is : List (List (List Bool))) (hs : List (Nat × Nat)) (o5 o6 o7 o8 o9 o10 : Option SD),s=[some (.sh (.scr ns)),some (.sh (.int (m : Int))),some (.ow (z0B O)),some (.ow (z4R Is)),some (.ow (y3b hs)),o5,o6,o7,o8,o9,o10]∧Is.length=n∧Part Is hs∧hs.length + m≤8 + n) ?_ ?_ ?_
  ·exact ⟨[],[],none,none,none,none,none,none,rfl,rfl,⟨fun k h=>absurd h (by simp),fun z=>by simp,bf⟩,by simpa using h8⟩
  ·rintro n hn s ⟨Is,hs,o5,o6,o7,o8,o9,o10,rfl,hI,P,hl⟩
   obtain ⟨c,ec⟩:=z7q ns (2 + n)
   have ec : z0p [.scr ns,.int (2 + (n : Int))]=some (.int c):=by rw [← ec]; congr 3
   obtain ⟨most,hmost⟩ : ∃ most : Nat,(9 : Int) - (hs.length : Int) - (m : Int) + (n : Int)=(most : Int):=⟨9 + n - hs.length - m,by omega⟩
   have hm1 : 0 < most:=by omega
   have hm8 : most + hs.length + m=9 + n:=by omega
   obtain ⟨j4,ej4,hj4⟩:=z7p (x:=c) (n:=4) (by omega)
   have g1 : z9w (.int c) (.int 4)=some (.int (j4 : Int)):=by rw [z6y (by omega)]; exact congrArg _ (congrArg _ ej4)
   have g2 : y5K (.int c) (.int 4)=some (.int (c / 4)):=y1V ⟨by omega,by omega⟩
   obtain ⟨jm,ejm,hjm⟩:=z7p (x:=c / 4) (n:=most) (by omega)
   have g3 : z9w (.int (c / 4)) (.int (most : Int))=some (.int (jm : Int)):=by rw [z6y (by omega),ejm]
   have g4 : y5K (.int c) (.int 32)=some (.int (c / 32)):=y1V ⟨by omega,by omega⟩
   obtain ⟨sz,esz,hs1,hs2⟩ : ∃ sz : Nat,atI [D.int 1,.int (if (most : Int) < 3 then (most : Int) else 3),.int (1 + (jm : Int))] (if (2 : Int) < (j4 : Int) then 2 else (j4 : Int))=some (.int (sz : Int))∧0 < sz∧sz≤most:=by
    have : j4=0∨j4=1∨j4=2∨j4=3:=by omega
    rcases this with rfl | rfl | rfl | rfl
    ·exact ⟨1,rfl,by omega,by omega⟩
    ·by_cases h3 : (most : Int) < 3
     ·exact ⟨most,by rw [if_pos h3]; rfl,by omega,by omega⟩
     ·exact ⟨3,by rw [if_neg h3]; rfl,by omega,by omega⟩
    ·exact ⟨1 + jm,rfl,by omega,by omega⟩
    ·exact ⟨1 + jm,rfl,by omega,by omega⟩
   obtain ⟨_,e3,T,rfl,FT⟩:=z7n (c / 32) sz (by omega)
   have hT : T.length=sz:=FT.sq.1
   have ap : m0V z7P (some (z4R Is)) (some [z0B T])=some (z4R (Is ++ [T])):=z7E (by omega)
   simp! only [cb,ec,y0U,z1P,hO,hmost,g1,g2,g3,g4,ea_min,esz,e3,ap,z2q (show sz≤1000000 by omega)]
   refine z5j (fun a s=>∃ (hs' : List (Nat × Nat)) (o9 o10 : Option SD),s=[some (.sh (.scr ns)),some (.sh (.int (m : Int))),some (.ow (z0B O)),some (.ow (z4R (Is ++ [T]))),some (.ow (y3b hs')),some (.sh (.int (n : Int))),some (.ow (.int c)),some (.sh (.int (most : Int))),some (.sh (.int (sz : Int))),o9,o10]∧hs'.length=hs.length + a∧hs'.Nodup∧∀ z,z∈hs'↔z∈hs∨(z.1=n∧z.2 < a)) ?_ ?_ ?_
   ·exact ⟨hs,_,_,rfl,rfl,P.nd,fun z=>by simp⟩
   ·rintro a ha s ⟨hs',o9,o10,rfl,hl',nd',mem'⟩
    obtain ⟨c6,ec6⟩:=z7q ns (6 + hs'.length)
    have ec6 : z0p [.scr ns,.int (6 + (hs'.length : Int))]=some (.int c6):=by rw [← ec6]; congr 3
    obtain ⟨t,et,ht⟩:=z7p (x:=c6) (n:=hs'.length + 1) (by omega)
    have et : c6 % ((hs'.length : Int) + 1)=(t : Int):=et
    have m1 : z9w (.int c6) (.int ((hs'.length : Int) + 1))=some (.int (t : Int)):=by rw [z6y (show (0 : Int) < (hs'.length : Int) + 1 by omega),et]
    have pe : D.tup [.int (n : Int),.int (a : Int)]=prD (n,a):=rfl
    have im : y6r (some [.int (t : Int),prD (n,a)])=some [.int (t : Int),prD (n,a)]:=y1M rfl
    have iv : m0V insF (some (y3b hs')) (some [.int (t : Int),prD (n,a)])=some (y3b (hs'.take t ++ (n,a) :: hs'.drop t)):=y6t (by omega) (by omega)
    have pm : (hs'.take t ++ (n,a) :: hs'.drop t).Perm ((n,a) :: hs'):=by
     refine List.perm_middle.trans ?_
     rw [d8]
    have hno : (n,a) ∉ hs':=fun h=>by
     rcases (mem' _).mp h with h | h
     ·have:=((P.mem _).mp h).1
      simp only at this
      omega
     ·simp only at h
      omega
    simp! only [cb,y0U,ec6,m1,pe,im,iv,z0e]
    refine ⟨_,_,_,rfl,?_,?_,fun z=>?_⟩
    ·rw [pm.length_eq,a8]; omega
    ·exact pm.nodup_iff.mpr (aC.mpr ⟨hno,nd'⟩)
    ·rw [pm.mem_iff,ai,mem' z]
     constructor
     ·rintro (h | h | h)
      ·subst h; exact .inr ⟨rfl,by simp⟩
      ·exact .inl h
      ·exact .inr ⟨h.1,by omega⟩
     ·rintro (h | h)
      ·exact .inr (.inl h)
      ·by_cases hz : z.2 < a
       ·exact .inr (.inr ⟨h.1,hz⟩)
       ·exact .inl (Prod.ext h.1 (by show z.2=a; omega))
   ·rintro s ⟨hs',o9,o10,rfl,hl',nd',mem'⟩
    refine ⟨_,_,_,_,_,_,_,_,rfl,by simp [hI],⟨fun k hk=>?_,fun z=>?_,nd'⟩,by omega⟩
    ·rw [z9r]
     rw [aK,cN] at hk
     by_cases h : k < Is.length
     ·rw [if_pos h]; exact P.inn k h
     ·rw [if_neg h,if_pos (by omega),hT]; exact ⟨FT,hs1⟩
    ·rw [mem' z,P.mem z,z9r,aK,cN]
     by_cases h : z.1 < Is.length
     ·rw [if_pos h]
      constructor
      ·rintro (q | q)
       ·exact ⟨by omega,q.2⟩
       ·omega
      ·rintro q
       exact .inl ⟨h,q.2⟩
     ·rw [if_neg h]
      by_cases h2 : z.1=Is.length
      ·rw [if_pos h2,hT]
       constructor
       ·rintro (q | q)
        ·omega
        ·exact ⟨by omega,q.2⟩
       ·rintro q
        exact .inr ⟨by omega,q.2⟩
      ·constructor
       ·rintro (q | q) <;> omega
       ·rintro q; omega
  ·rintro s ⟨Is,hs,o5,o6,o7,o8,o9,o10,rfl,hI,P,hl⟩
   exact ⟨_,rfl,Is,hs,_,_,_,_,_,_,rfl,hI,P,by omega⟩
 ·rintro s ⟨Is,hs,o5,o6,o7,o8,o9,o10,rfl,hI,P,hl⟩
  simp! only [z0e]
  exact ⟨_,rfl,O,Is,hs,rfl,⟨by rw [hO]; exact F,by omega,by omega,by omega,P,hl⟩⟩
noncomputable def y2u (O : List (List Bool)) (Is : List (List (List Bool))) (hs : List (Nat × Nat)) : D:=.lst [z0B O,z4R Is,y3b hs]
theorem mix_0 {O : List (List Bool)} {Is : List (List (List Bool))} {hs : List (Nat × Nat)} : ixD (y2u O Is hs) (.int 0)=some (z0B O):=(rfl)
theorem mix_1 {O : List (List Bool)} {Is : List (List (List Bool))} {hs : List (Nat × Nat)} : ixD (y2u O Is hs) (.int 1)=some (z4R Is):=(rfl)
theorem y7x {O : List (List Bool)} {Is : List (List (List Bool))} {hs : List (Nat × Nat)} : ixD (y2u O Is hs) (.int 2)=some (y3b hs):=(rfl)
theorem pr_0 {z : Nat × Nat} : ixD (prD z) (.int 0)=some (.int (z.1 : Int)):=(rfl)
theorem pr_1 {z : Nat × Nat} : ixD (prD z) (.int 1)=some (.int (z.2 : Int)):=(rfl)
noncomputable def mb (O : List (List Bool)) (Is : List (List (List Bool))) (a b : Nat × Nat) : Bool:=if a.1=b.1 then at2 (Is.getD a.1 []) a.2 b.2 else at2 O a.1 b.1
noncomputable def y5J (O : List (List Bool)) (Is : List (List (List Bool))) (hs : List (Nat × Nat)) : List (List Bool):=hs.map fun a=>hs.map fun b=>mb O Is a b
section
variable {O : List (List Bool)} {Is : List (List (List Bool))} {hs : List (Nat × Nat)}
theorem y7v (M : Mix O Is hs) {a b : Nat × Nat} (ha : a∈hs) (hb : b∈hs) : z2j [y2u O Is hs,prD a,prD b]=some (.bl (mb O Is a b)):=by
 refine z0D rfl ?_
 obtain ⟨a1,a2⟩:=(M.prt.mem a).mp ha
 obtain ⟨b1,b2⟩:=(M.prt.mem b).mp hb
 by_cases h : a.1=b.1
 ·have hd : decide ((a.1 : Int)=(b.1 : Int))=true:=by simp [h]
  have i1 : ixD (z4R Is) (.int (a.1 : Int))=some (z0B (Is.getD a.1 [])):=y3Z a1
  have i2:=ix2 (M.prt.inn a.1 a1).1.sq a2 (j:=b.2) (by rw [h]; exact b2)
  simp! only [z2B,pr_0,pr_1,hd,mix_1,i1,i2,z0e]
  unfold mb
  rw [if_pos h]
 ·have hd : decide ((a.1 : Int)=(b.1 : Int))=false:=by simp; omega
  have i2:=ix2 M.out.sq (i:=a.1) (j:=b.1) (by rw [← M.len]; exact a1) (by rw [← M.len]; exact b1)
  simp! only [z2B,pr_0,pr_1,hd,mix_0,i2,z0e]
  unfold mb
  rw [if_neg h]
theorem y3D : y2X (y3b hs)=some (hs.map prD):=(rfl)
theorem y5i (M : Mix O Is hs) : z2i [y2u O Is hs]=some (z0B (y5J O Is hs)):=by
 refine z0D rfl ?_
 simp! only [z3J,z2F,y7x,y3D]
 refine z0H (I:=fun s=>∃ o2,s=[some (.sh (y2u O Is hs)),some (.ow (z0B (y5J O Is hs))),o2]) ?_ ?_
 ·refine z2N (fun pre s=>∃ o2,s=[some (.sh (y2u O Is hs)),some (.ow (z0B (pre.map fun a=>hs.map fun b=>mb O Is a b))),o2]) ⟨_,rfl⟩ ?_ fun s z=>⟨s,rfl,z⟩
  rintro pre a post e s ⟨o2,rfl⟩
  have ha : a∈hs:=by rw [e]; simp
  have hpl : pre.length≤8:=by
   have:=M.le
   rw [e] at this
   simp at this
   omega
  simp! only [y7x,y3D]
  rw [z2o (enc:=prD) (xs:=hs) (fun b=>bD (mb O Is a b)) (by have:=M.le; omega) fun b hb=>by simp! only [y7v M ha hb,bD]]
  have er : D.lst (hs.map fun b=>bD (mb O Is a b))=z3A (hs.map fun b=>mb O Is a b):=by unfold z3A; rw [aR]; rfl
  have ap : m0V z7P (some (z0B (pre.map fun a=>hs.map fun b=>mb O Is a b))) (some [z3A (hs.map fun b=>mb O Is a b)])=some (z0B ((pre.map fun a=>hs.map fun b=>mb O Is a b) ++ [hs.map fun b=>mb O Is a b])):=z7E (by simp; omega)
  simp! only [er,ap,z0e]
  exact ⟨_,by rw [a6]; rfl⟩
 ·rintro s ⟨o2,rfl⟩
  simp! only [z0e]
theorem z7w {i j : Nat} (hi : i < hs.length) (hj : j < hs.length) : at2 (y5J O Is hs) i j=mb O Is hs[i] hs[j]:=by
 unfold at2 y5J
 rw [y1f hi,y1f hj]
theorem sq_mtab : Sq hs.length (y5J O Is hs):=by
 refine ⟨by simp [y5J],fun r hr=>?_⟩
 obtain ⟨i,_,rfl⟩:=aI.mp hr
 simp
theorem y3W (M : Mix O Is hs) : Full hs.length (y5J O Is hs):=by
 refine ⟨sq_mtab,fun i hi=>?_,fun i hi j hj hij=>?_⟩
 ·rw [z7w hi hi]
  unfold mb
  rw [if_pos rfl]
  obtain ⟨a1,a2⟩:=(M.prt.mem hs[i]).mp (bh hi)
  exact (M.prt.inn _ a1).1.own _ a2
 ·rw [z7w hi hj,z7w hj hi]
  obtain ⟨a1,a2⟩:=(M.prt.mem hs[i]).mp (bh hi)
  obtain ⟨b1,b2⟩:=(M.prt.mem hs[j]).mp (bh hj)
  have hne : hs[i]≠hs[j]:=fun h=>hij ((List.getElem_inj M.prt.nd).mp h)
  unfold mb
  by_cases h : hs[i].1=hs[j].1
  ·rw [if_pos h,if_pos h.symm,← h]
   rw [← h] at b2
   exact (M.prt.inn _ a1).1.two _ a2 _ b2 fun e=>hne (Prod.ext h e)
  ·rw [if_neg h,if_neg (Ne.symm h)]
   exact M.out.two _ (by rw [← M.len]; exact a1) _ (by rw [← M.len]; exact b1) h
theorem hs_pos (M : Mix O Is hs) : 0 < hs.length:=by
 have h0 : 0 < Is.length:=by rw [M.len]; exact M.pos
 have : ((0,0) : Nat × Nat)∈hs:=(M.prt.mem _).mpr ⟨h0,(M.prt.inn 0 h0).2⟩
 exact dS this
noncomputable def llD (L : List (List Nat)) : D:=.lst (L.map thD)
noncomputable def pc (hs : List (Nat × Nat)) (k : Nat) : List Nat:=(ag hs.length).filter fun t=>decide ((hs.getD t (0,0)).1=k)
noncomputable def pcs (n : Nat) (hs : List (Nat × Nat)) : List (List Nat):=(ag n).map (pc hs)
theorem y4A (M : Mix O Is hs) : z1J [y2u O Is hs]=some (llD (pcs O.length hs)):=by
 refine z0D rfl ?_
 have h8:=M.o8
 simp! only [z2Z,z2F,mix_0,z1P,y3e (show O.length≤1000000 by omega)]
 refine z0H (I:=fun s=>∃ o2,s=[some (.sh (y2u O Is hs)),some (.ow (llD (pcs O.length hs))),o2]) ?_ ?_
 ·refine z5j (fun n s=>∃ o2,s=[some (.sh (y2u O Is hs)),some (.ow (llD (pcs n hs))),o2]) ⟨_,rfl⟩ ?_ fun s z=>⟨s,rfl,z⟩
  rintro n hn s ⟨o2,rfl⟩
  simp! only [cb,y7x,y0U,z2q (show hs.length≤1000000 by have:=M.le; omega)]
  rw [z3l,z8W (enc:=nD) (xs:=ag hs.length) (fun t=>decide ((hs.getD t (0,0)).1=n)) nD (by have:=M.le; simp; omega) (fun t ht=>by
   have i1 : ixD (y3b hs) (.int (t : Int))=some (prD (hs.getD t (0,0))):=y3Z (ad.mp ht)
   have hd : decide (((hs.getD t (0,0)).1 : Int)=(n : Int))=decide ((hs.getD t (0,0)).1=n):=decide_eq_decide.mpr (by omega)
   simp! only [nD,y7x,i1,pr_0,hd]) fun t ht _=>by simp! only [nD]]
  have ap : m0V z7P (some (llD (pcs n hs))) (some [thD (pc hs n)])=some (llD (pcs n hs ++ [pc hs n])):=z7E (by simp [pcs]; omega)
  have ef : z6L (some (((ag hs.length).filter fun t=>decide ((hs.getD t (0,0)).1=n)).map nD))=some ((pc hs n).map nD):=z1I _
  have et : D.lst ((pc hs n).map nD)=thD (pc hs n):=rfl
  simp! only [ef,et,ap,z0e]
  exact ⟨_,by
   unfold pcs
   rw [List.range_succ,a6]
   rfl⟩
 ·rintro s ⟨o2,rfl⟩
  simp! only [z0e]
end
noncomputable def y2f (T : List (List Bool)) (o : Nat) (th : List Nat) : Bool:=(th.all fun j=>at2 T o j) || !(th.any fun j=>at2 T o j)
noncomputable def brk (T : List (List Bool)) (o : Nat) (th : List Nat) : Bool:=!th.contains o && !y2f T o th
noncomputable def prt (T : List (List Bool)) (m : Nat) (th : List Nat) : List Nat:=(ag m).filter fun o=>brk T o th
noncomputable def togB (T : List (List Bool)) (m : Nat) (th : List Nat) : Bool:=(ag m).all fun o=>!brk T o th
section
variable {T : List (List Bool)} {m : Nat} {th : List Nat}
theorem sees_eq (sq : Sq m T) (hm : m≤900) {o : Nat} (ho : o < m) (hl : th.length≤900) (h : ∀ x∈th,x < m) : z1N [z0B T,.int (o : Int),thD th]=some (.bl (y2f T o th)):=by
 refine z0D rfl ?_
 simp! only [z3u,z2C]
 rw [z2o (fun j=>bD (at2 T o j)) (by omega) fun j hj=>by simp! only [nD,ix2 sq ho (h j hj),bD]]
 have e : (th.map fun j=>bD (at2 T o j))=(th.map fun j=>at2 T o j).map bD:=by rw [aR]; rfl
 have e2 : ((th.map fun j=>at2 T o j).all fun b=>b)=th.all fun j=>at2 T o j:=by rw [dW]; rfl
 have e3 : ((th.map fun j=>at2 T o j).any fun b=>b)=th.any fun j=>at2 T o j:=by rw [ca]; rfl
 simp! only [e,z3i (z1y _),y1o,y8n,e2,e3,z0e]
 unfold y2f
 cases (th.all fun j=>at2 T o j) <;> simp! only [z0e,Bool.false_or,Bool.true_or]
theorem z6Z (sq : Sq m T) (hm : m≤900) (hl : th.length≤900) (h : ∀ x∈th,x < m) : z1G [z0B T,thD th]=some (thD (prt T m th)):=by
 refine z0D rfl ?_
 simp! only [z6D,z1P,sq.1,z2q (show m≤1000000 by omega)]
 rw [z3l,z8W (enc:=nD) (xs:=ag m) (fun o=>brk T o th) nD (by simp; omega) (fun o ho=>by
  have ho:=ad.mp ho
  simp! only [nD,nin_ths,sees_eq sq hm ho hl h]
  unfold brk
  cases th.contains o <;> cases y2f T o th <;> simp! only [Bool.not_true,Bool.not_false,Bool.and_true,dE,dD,Bool.true_and,bF]) fun o _ _=>by simp! only [nD]]
 simp! only [z1I,z0e]
 rfl
theorem tog_one {x : Nat} : togB T m [x]=true:=aS.mpr fun o _=>by
 unfold brk y2f
 simp only [dJ,List.all_nil,ck,List.any_nil,Bool.and_true,Bool.or_false]
 cases at2 T o x <;> simp
end
theorem tog_of {m : Nat} {T : List (List Bool)} {A : List Nat} (h : prt T m A=[]) : togB T m A=true:=aS.mpr fun o ho=>by
 have:=bi.mp h o ho
 simpa using this
theorem y4D {m : Nat} : ∀ {th : List Nat},th.Nodup->(∀ x∈th,x < m)->th.length=m->∀ o,o < m->o∈th:=fun {th} nd lt hl o ho=>by
 by_cases h : o∈th
 ·exact h
 ·have nd2 : (o :: th).Nodup:=aC.mpr ⟨h,nd⟩
  have : (o :: th).length≤(ag m).length:=List.Nodup.length_le_of_subset nd2 fun x hx=>by
   rcases ai.mp hx with rfl | hx
   ·exact ad.mpr ho
   ·exact ad.mpr (lt x hx)
  simp at this
  omega
noncomputable def rsI (ns : List Int) : List Int:=z5F (ddI ns)
theorem y7a {a b : List Int} (ha : a.Nodup) (hb : b.Nodup) (h : ∀ x,x∈a↔x∈b) : a.Perm b:=(bq ha hb).mpr h
theorem rs_is {a ns : List Int} (nd : a.Nodup) (hs : a.Pairwise (· ≤ ·)) (h : ∀ x,x∈a↔x∈ns) : a=rsI ns:=z4j (y7a nd (z8p ns) fun x=>by rw [h x,dd_mem]) hs
theorem rs_len {ns U : List Int} (h : ∀ x∈ns,x∈U) : (ddI ns).length≤U.length:=List.Nodup.length_le_of_subset (z8p ns) fun x hx=>h x (dd_mem.mp hx)
theorem y7m {ns : List Int} (h1 : ns.length≤1000) (h2 : (ddI ns).length < 64) : z9a (.lst (ns.map .int))=some ((rsI ns).map .int):=by
 show ((z3h (ns.map D.int)).bind fun ns=>if ns.length≤1000∧(ddI ns).length < 64 then some ((z5F (ddI ns)).map D.int) else none)=_
 rw [y1L,ax,if_pos ⟨h1,h2⟩]
 rfl
theorem z5k {m : Nat} {p : Nat->Bool} : ((ag m).filter p).Pairwise (· < ·):=List.Pairwise.filter _ br
noncomputable def wid (T : List (List Bool)) (m : Nat) (W : List Nat) : List Nat:=(ag m).filter fun x=>W.contains x || brk T x W
inductive Rea (T : List (List Bool)) (m : Nat) : List Nat->List Nat->Prop
 | here (W : List Nat) : Rea T m W W
 | step {W V : List Nat} : prt T m W≠[]->Rea T m (wid T m W) V->Rea T m W V
theorem Rea.snoc {T : List (List Bool)} {m : Nat} {W A : List Nat} (h : Rea T m W A) (hn : prt T m A≠[]) : Rea T m W (wid T m A):=by
 induction h with
 | here W=>exact .step hn (.here _)
 | step hn' _ ih=>exact .step hn' (ih hn)
section
variable {T : List (List Bool)} {m : Nat} {W : List Nat}
structure Ris (m : Nat) (W : List Nat) : Prop where
 up : W.Pairwise (· < ·)
 lt : ∀ x∈W,x < m
theorem Ris.nd (h : Ris m W) : W.Nodup:=h.up.imp fun h=>aH h
theorem Ris.len (h : Ris m W) : W.length≤m:=by simpa using List.Nodup.length_le_of_subset h.nd fun x hx=>ad.mpr (h.lt x hx)
theorem ris_fil {p : Nat->Bool} : Ris m ((ag m).filter p):=⟨z5k,fun x hx=>ad.mp (ac.mp hx).1⟩
theorem y3w {x : Nat} (h : x∈prt T m W) : x ∉ W∧x < m:=by
 have h:=ac.mp h
 refine ⟨fun z=>?_,ad.mp h.1⟩
 have h2:=h.2
 unfold brk at h2
 have : W.contains x=true:=by simpa using z
 rw [this] at h2
 cases h2
theorem y0z {o : List Nat} (h : o.Pairwise (· < ·)) : (o.map fun n=>((n : Nat) : Int)).Pairwise (· ≤ ·):=by
 rw [aY]
 exact h.imp fun h=>by omega
theorem cast_nd {o : List Nat} (h : o.Nodup) : (o.map fun n=>((n : Nat) : Int)).Nodup:=by
 unfold List.Nodup
 rw [aY]
 exact h.imp fun h z=>h (by omega)
theorem cast_mem {o : List Nat} {x : Nat} : ((x : Nat) : Int)∈o.map (fun n=>((n : Nat) : Int))↔x∈o:=by
 rw [aI]
 constructor
 ·rintro ⟨y,hy,e⟩
  have : y=x:=by omega
  exact this ▸ hy
 ·exact fun h=>⟨x,h,rfl⟩
theorem z8S {a b : List Nat} (h : a.Perm b) : (a.map fun n=>((n : Nat) : Int)).Perm (b.map fun n=>((n : Nat) : Int)):=h.map _
theorem z3V (o : List Nat) : o.map nD=(o.map fun n=>((n : Nat) : Int)).map D.int:=by rw [aR]; rfl
theorem y1F {a b : List Nat} (ha : a.Nodup) (hb : b.Nodup) (h : ∀ x,x∈a↔x∈b) : a.Perm b:=(bq ha hb).mpr h
theorem y5O (R : Ris m W) (hm : m≤30) : z9C [thD (W ++ prt T m W)]=some ((wid T m W).map nD):=by
 unfold thD
 have hl:=R.len
 have hp : (prt T m W).length≤m:=aQ (bc ..) (by simp)
 rw [z3V,y1x (by simp; omega),z3V (wid T m W)]
 congr 2
 refine (z4j ?_ (y0z ris_fil.up)).symm
 refine z8S (y1F ris_fil.nd (ba.mpr ⟨R.nd,(ris_fil (p:=fun o=>brk T o W)).nd,fun x hx y hy z=>(y3w hy).1 (z ▸ hx)⟩) fun x=>?_)
 unfold prt
 rw [ac,aF,ac,ad,cq,aM]
 constructor
 ·rintro ⟨h1,h2 | h2⟩
  ·exact .inl h2
  ·exact .inr ⟨h1,h2⟩
 ·rintro (h | h)
  ·exact ⟨R.lt x h,.inl h⟩
  ·exact ⟨h.1,.inr h.2⟩
theorem wid_len (R : Ris m W) (hn : prt T m W≠[]) : W.length < m∧W.length < (wid T m W).length:=by
 obtain ⟨x,hx⟩:=dI _ hn
 obtain ⟨h1,h2⟩:=y3w hx
 have nd : (x :: W).Nodup:=aC.mpr ⟨h1,R.nd⟩
 constructor
 ·have : (x :: W).length≤(ag m).length:=List.Nodup.length_le_of_subset nd fun y hy=>by
   rcases ai.mp hy with z | z
   ·exact ad.mpr (z ▸ h2)
   ·exact ad.mpr (R.lt y z)
  simp at this
  omega
 ·have : (x :: W).length≤(wid T m W).length:=List.Nodup.length_le_of_subset nd fun y hy=>by
   unfold wid
   rw [ac,ad,cq,aM]
   rcases ai.mp hy with z | z
   ·subst z
    exact ⟨h2,.inr (ac.mp hx).2⟩
   ·exact ⟨R.lt y z,.inl z⟩
  simp at this
  omega
noncomputable def w0 (m : Nat) (th : List Nat) : List Nat:=(ag m).filter fun x=>th.contains x
theorem z5s {th : List Nat} (lt : ∀ x∈th,x < m) {x : Nat} : x∈w0 m th↔x∈th:=by
 unfold w0
 rw [ac,ad,aM]
 exact ⟨fun h=>h.2,fun h=>⟨lt x h,h⟩⟩
theorem y7b {th : List Nat} (lt : ∀ x∈th,x < m) (hm : m≤30) (hl : th.length≤1000) : z9a (thD th)=some ((w0 m th).map nD):=by
 unfold thD
 rw [z3V,z3V (w0 m th)]
 have hmem : ∀ x : Int,x∈(w0 m th).map (fun n=>((n : Nat) : Int))↔x∈th.map fun n=>((n : Nat) : Int):=fun x=>by
  constructor
  ·intro h
   obtain ⟨y,hy,rfl⟩:=aI.mp h
   exact cast_mem.mpr ((z5s lt).mp hy)
  ·intro h
   obtain ⟨y,hy,rfl⟩:=aI.mp h
   exact cast_mem.mpr ((z5s lt).mpr hy)
 rw [y7m (by simpa using hl) (Nat.lt_of_le_of_lt (rs_len fun x hx=>(hmem x).mpr hx) (by
  have : (w0 m th).length≤m:=(ris_fil (m:=m) (p:=fun x=>th.contains x)).len
  rw [aq]
  omega))]
 rw [← rs_is (cast_nd ris_fil.nd) (y0z ris_fil.up) hmem]
 rfl
theorem sort_nd {th : List Nat} (lt : ∀ x∈th,x < m) (nd : th.Nodup) (hm : m≤30) : z9C [thD th]=some ((w0 m th).map nD):=by
 have hl : th.length≤m:=by simpa using List.Nodup.length_le_of_subset nd fun x hx=>ad.mpr (lt x hx)
 unfold thD
 rw [z3V,y1x (by simp; omega),z3V (w0 m th)]
 congr 2
 exact (z4j (z8S (y1F ris_fil.nd nd fun x=>z5s lt)) (y0z ris_fil.up)).symm
theorem y2D (sq : Sq m T) (hm : m≤8) {th : List Nat} (lt : ∀ x∈th,x < m) (hl : th.length≤1000) : hol (z3F [z0B T,thD th]) fun d=>∃ A,d=thD A∧Rea T m (w0 m th) A∧prt T m A=[]∧Ris m A:=by
 refine z8v rfl ?_
 have s0:=y7b lt (by omega) hl
 have p0 : ∀ {W : List Nat},Ris m W->z1G [z0B T,thD W]=some (thD (prt T m W)):=fun {W} R=>z6Z sq (by omega) (by have:=R.len; omega) R.lt
 have tl : ∀ W : List Nat,D.lst (W.map nD)=thD W:=fun _=>rfl
 have R0 : Ris m (w0 m th):=ris_fil
 simp! only [z5R,ax,s0,z1I,tl,p0 R0]
 refine z0H (I:=fun s=>∃ A o3,s=[some (.sh (z0B T)),some (.sh (thD th)),some (.ow (thD A)),o3]∧Rea T m (w0 m th) A∧prt T m A=[]∧Ris m A) ?_ ?_
 ·refine z4K (fun n s=>∃ A,s=[some (.sh (z0B T)),some (.sh (thD th)),some (.ow (thD A)),some (.ow (thD (prt T m A)))]∧Rea T m (w0 m th) A∧Ris m A∧m≤A.length + n) (n:=m) ⟨_,rfl,.here _,R0,by omega⟩ ?_ (by omega)
  rintro n s ⟨A,rfl,hr,R,hn⟩
  refine ⟨!(prt T m A).isEmpty,by simp! only [y8q],fun hz=>?_,fun hz=>?_⟩
  ·exact ⟨_,rfl,A,_,rfl,hr,by simpa using hz,R⟩
  ·have hne : prt T m A≠[]:=by simpa using hz
   obtain ⟨k1,k2⟩:=wid_len R hne
   have ct : catO (some (thD A)) (some (thD (prt T m A)))=some ((A ++ prt T m A).map nD):=by
    have : (prt T m A).length≤m:=aQ (bc ..) (by simp)
    exact y5d (by omega)
   refine ⟨n - 1,by omega,?_⟩
   simp! only [ct,y5O R (show m≤30 by omega),z1I,tl,p0 (W:=wid T m A) ris_fil,z0e]
   exact ⟨_,rfl,hr.snoc hne,ris_fil,by omega⟩
 ·rintro s ⟨A,o3,rfl,h1,h2,h3⟩
  simp! only [z0e]
  exact ⟨_,rfl,A,rfl,h1,h2,h3⟩
end
theorem z9M {r0 : List Bool} : ∀ (r : List Bool) (k : Nat),z1U (two (z4c (z1t (z0d 2)) (z0d 1) [some (z3A r0)])) (z0s k (r.map bD))=some ((z4g k r).map nD)
 | [],_=>rfl
 | b :: r,k=>by
  have ih:=z9M (r0:=r0) r (k + 1)
  rw [aT]
  show z1U _ (.tup [.int (k : Nat),bD b] :: z0s (k + 1) (r.map bD))=_
  unfold z1U
  rw [ih]
  have e : two (z4c (z1t (z0d 2)) (z0d 1) [some (z3A r0)]) (.tup [.int (k : Nat),bD b])=some (if b=true then some (nD k) else none):=by
   show z4c _ _ _ _ _=_
   unfold z4c
   have e1 : z1t (z0d 2) ([some (z3A r0)] ++ [some (.int (k : Nat)),some (bD b)])=some b:=rfl
   rw [e1]
   cases b <;> rfl
  have t : z4g k (b :: r)=if b=true then k :: z4g (k + 1) r else z4g (k + 1) r:=rfl
  rw [e,t]
  cases b <;> rfl
theorem y4f (r : List Bool) (hl : r.length≤1000) : z1H [z3A r]=some (thD ((ag r.length).filter fun i=>r.getD i false)):=by
 refine z0D rfl ?_
 have e : z4g 0 r=(ag r.length).filter fun i=>r.getD i false:=by
  rw [y3O,List.range_eq_range']
  rfl
 have h0 : y0j (z3A r)=some (z0s 0 (r.map bD)):=rfl
 have hl' : (z0s 0 (r.map bD)).length≤1000000:=by rw [z6u,aq]; omega
 have fl:=z3i (z7g (z4g 0 r))
 simp! only [z3t,h0,z4q hl',z9M,fl,z0e]
 rw [e]
 rfl
theorem z6h {n : Nat} {T : List (List Bool)} (sq : Sq n T) (hn : n≤1000) {k : Nat} (hk : k < n) : z0M [z0B T,.int (k : Int)]=some (thD ((ag n).filter fun j=>at2 T k j)):=by
 refine z0D rfl ?_
 have hk' : k < T.length:=by rw [sq.1]; exact hk
 have p:=y4f (T.getD k []) (by rw [sq.len hk]; omega)
 rw [sq.len hk] at p
 simp! only [z4v,y0q hk',p,z0e]
 rfl
noncomputable def ky (n : Nat) : Key:=.inl (n : Int)
noncomputable def stD (ks : List Nat) (vs : List Nat) : D:=.dct (ks.map ky) (vs.map nD)
theorem y3g {ks vs : List Nat} {y : Nat} : inK (.int (y : Int)) (stD ks vs)=some (ks.contains y):=by
 show some (y0m (ks.map ky) (.inl (y : Int)))=_
 congr 1
 unfold y0m
 rw [ca,cG]
 congr 1
 funext z
 show decide ((Sum.inl (z : Int) : Key)=Sum.inl (y : Int))=(y == z)
 by_cases h : z=y
 ·subst h; simp
 ·have h1 : decide ((Sum.inl (z : Int) : Key)=Sum.inl (y : Int))=false:=decide_eq_false fun e=>h (by cases e; rfl)
  have h2 : (y == z)=false:=by rw [beq_eq_false_iff_ne]; exact fun e=>h e.symm
  rw [h1,h2]
theorem st_put {ks vs : List Nat} {x y : Nat} (h : y ∉ ks) (hl : ks.length≤1000000) : y3V (some (stD ks vs)) (some (.int (y : Int))) (some (.int (x : Int)))=some (stD (ks ++ [y]) (vs ++ [x])):=by
 show (if z2l (vs.map nD)=true∧(ks.map ky).length < sizeLine then _ else _)=_
 rw [if_pos ⟨z7g vs,by rw [aq,PySem.sizeLine_eq]; omega⟩]
 have hh : y0m (ks.map ky) (.inl (y : Int))=false:=by
  have:=y3g (ks:=ks) (vs:=vs) (y:=y)
  have hc : ks.contains y=false:=by rw [← cI,aM]; exact h
  rw [hc] at this
  exact Option.some.inj this
 unfold z9J z8T stD
 rw [hh,if_neg ao,if_neg ao,a6,a6]
 rfl
inductive Rch (T : List (List Bool)) (m a : Nat) : Nat->Prop
 | here : Rch T m a a
 | step {x y : Nat} : Rch T m a x->y < m->at2 T x y=true->Rch T m a y
structure Stp (T : List (List Bool)) (m a : Nat) (ks : List Nat) : Prop where
 nd : ks.Nodup
 lt : ∀ x∈ks,x < m
 on : a∈ks
 rc : ∀ x∈ks,Rch T m a x
noncomputable def Cld (T : List (List Bool)) (m : Nat) (ks : List Nat) (x : Nat) : Prop:=∀ y < m,at2 T x y=true->y∈ks
theorem Stp.add {T : List (List Bool)} {m a x y : Nat} {ks : List Nat} (P : Stp T m a ks) (hx : x∈ks) (hy : y < m) (h : at2 T x y=true) (hn : y ∉ ks) : Stp T m a (ks ++ [y]):=
 ⟨ba.mpr ⟨P.nd,by simp,fun u hu v hv z=>by rw [am] at hv; exact hn (hv ▸ z ▸ hu)⟩,fun z hz=>by
  rcases aF.mp hz with q | q
  ·exact P.lt z q
  ·rw [am.mp q]; exact hy,aF.mpr (.inl P.on),fun z hz=>by
  rcases aF.mp hz with q | q
  ·exact P.rc z q
  ·rw [am.mp q]; exact .step (P.rc x hx) hy h⟩
theorem Stp.len {T : List (List Bool)} {m a : Nat} {ks : List Nat} (P : Stp T m a ks) : ks.length≤m:=by
 have:=List.Nodup.length_le_of_subset (l₂:=ag m) P.nd fun x hx=>ad.mpr (P.lt x hx)
 simpa using this
theorem y5Z {m : Nat} {T : List (List Bool)} (sq : Sq m T) (hm : m≤90) {a : Nat} (ha : a < m) : hol (z2h [z0B T,.int (a : Int)]) fun d=>∃ ks vs,d=stD ks vs∧Stp T m a ks∧∀ x∈ks,Cld T m ks x:=by
 refine z8v rfl ?_
 have s0 : D.dct [.inl (a : Int)] [.int (a : Int)]=stD [a] [a]:=rfl
 have f0 : z6L (some [.int (a : Int)])=some [.int (a : Int)]:=rfl
 simp! only [z3L,s0,f0,th_one]
 refine z0H (I:=fun s=>∃ ks vs o3 o4 o5 o6,s=[some (.sh (z0B T)),some (.sh (.int (a : Int))),some (.ow (stD ks vs)),o3,o4,o5,o6]∧Stp T m a ks∧∀ x∈ks,Cld T m ks x) ?_ ?_
 ·refine z4K (fun n s=>∃ ks vs E o5 o6,s=[some (.sh (z0B T)),some (.sh (.int (a : Int))),some (.ow (stD ks vs)),some (.ow (thD E)),none,o5,o6]∧Stp T m a ks∧(∀ x∈E,x∈ks)∧(∀ x∈ks,x ∉ E->Cld T m ks x)∧(E≠[]->m + 1≤ks.length + n)) (n:=m) ⟨[a],[a],[a],_,_,rfl,⟨by simp,fun x hx=>by rw [am.mp hx]; exact ha,by simp,fun x hx=>by rw [am.mp hx]; exact .here⟩,fun x hx=>hx,fun x hx hn=>absurd hx hn,fun _=>by simp; omega⟩ ?_ (by omega)
  rintro n s ⟨ks,vs,E,o5,o6,rfl,P,hE,hC,hn⟩
  refine ⟨!E.isEmpty,by simp! only [y8q],fun hz=>?_,fun hz=>?_⟩
  ·have hz : E=[]:=by simpa using hz
   exact ⟨_,rfl,ks,vs,_,_,_,_,rfl,P,fun x hx=>hC x hx (by rw [hz]; simp)⟩
  ·have hz : E≠[]:=by simpa using hz
   have hn:=hn hz
   have hl:=P.len
   refine ⟨n - 1,by omega,?_⟩
   simp! only [z2F,y3a,z2C]
   refine z0H (I:=fun s=>∃ F ws o5 o6,s=[some (.sh (z0B T)),some (.sh (.int (a : Int))),some (.ow (stD (ks ++ F) ws)),some (.sh (thD E)),some (.ow (thD F)),o5,o6]∧Stp T m a (ks ++ F)∧∀ x∈E,Cld T m (ks ++ F) x) ?_ ?_
   ·refine z2N (fun pre s=>∃ F ws o5 o6,s=[some (.sh (z0B T)),some (.sh (.int (a : Int))),some (.ow (stD (ks ++ F) ws)),some (.sh (thD E)),some (.ow (thD F)),o5,o6]∧Stp T m a (ks ++ F)∧∀ x∈pre,Cld T m (ks ++ F) x) ⟨[],vs,_,_,by rw [aL],by rw [aL]; exact P,fun x hx=>nomatch hx⟩ ?_ fun s z=>⟨s,rfl,z⟩
    rintro pre x post e s ⟨F,ws,o5,o6,rfl,P1,C1⟩
    have hxE : x∈E:=by rw [e]; simp
    have hxk:=hE x hxE
    have hxm:=P.lt x hxk
    simp! only [nD,z6h sq (show m≤1000 by omega) hxm,z2C]
    refine z2N (fun q s=>∃ F ws o6,s=[some (.sh (z0B T)),some (.sh (.int (a : Int))),some (.ow (stD (ks ++ F) ws)),some (.sh (thD E)),some (.ow (thD F)),some (.sh (.int (x : Int))),o6]∧Stp T m a (ks ++ F)∧(∀ x∈pre,Cld T m (ks ++ F) x)∧∀ y∈q,y∈ks ++ F) ⟨F,ws,_,rfl,P1,C1,fun y hy=>nomatch hy⟩ ?_ ?_
    ·rintro q y r e2 s ⟨F,ws,o6,rfl,P2,C2,Q2⟩
     have hy : y∈(ag m).filter fun j=>at2 T x j:=by rw [e2]; simp
     have hy:=ac.mp hy
     have hym:=ad.mp hy.1
     have hl2:=P2.len
     cases hc : (ks ++ F).contains y with
     | true=>
      simp! only [nD,y3g,hc,bF,Bool.not_true,z0e]
      refine ⟨F,ws,_,rfl,P2,C2,fun z hz=>?_⟩
      rcases aF.mp hz with z1 | z1
      ·exact Q2 z z1
      ·rw [am.mp z1]; exact aM.mp hc
     | false=>
      have hny : y ∉ ks ++ F:=fun z=>by rw [aM.mpr z] at hc; cases hc
      have im : y6r (some [.int (y : Int)])=some [.int (y : Int)]:=y1M rfl
      have pt:=st_put (vs:=ws) (x:=x) hny (by omega)
      have ap:=app_thV (th:=F) (k:=y) (by rw [aK] at hl2; omega)
      have P3:=P2.add (aF.mpr (.inl hxk)) hym hy.2 hny
      rw [aZ] at P3 pt
      have sub : ∀ z,z∈ks ++ F->z∈ks ++ (F ++ [y]):=fun z hz=>by rw [← aZ]; exact aF.mpr (.inl hz)
      simp! only [nD,y3g,hc,bF,Bool.not_false,pt,im,ap,z0e]
      refine ⟨F ++ [y],_,_,rfl,P3,fun z hz w hw h=>sub w (C2 z hz w hw h),fun z hz=>?_⟩
      rcases aF.mp hz with z1 | z1
      ·exact sub z (Q2 z z1)
      ·rw [am.mp z1]; simp
    ·rintro s ⟨F,ws,o6,rfl,P2,C2,Q2⟩
     refine ⟨F,ws,_,_,rfl,P2,fun z hz=>?_⟩
     rcases aF.mp hz with z1 | z1
     ·exact C2 z z1
     ·rw [am.mp z1]
      exact fun y hy h=>Q2 y (ac.mpr ⟨ad.mpr hy,h⟩)
   ·rintro s ⟨F,ws,o5,o6,rfl,P1,C1⟩
    simp! only [z0e]
    refine ⟨ks ++ F,ws,F,_,_,rfl,P1,fun x hx=>aF.mpr (.inr hx),fun x hx hnx=>?_,fun hF=>?_⟩
    ·have hxk : x∈ks:=by
      rcases aF.mp hx with z | z
      ·exact z
      ·exact absurd z hnx
     by_cases hxE : x∈E
     ·exact C1 x hxE
     ·exact fun y hy h=>aF.mpr (.inl (hC x hxk hxE y hy h))
    ·have : 0 < F.length:=cR.mpr hF
     rw [aK]
     omega
 ·rintro s ⟨ks,vs,o3,o4,o5,o6,rfl,P,C⟩
  simp! only [z0e]
  exact ⟨_,rfl,ks,vs,rfl,P,C⟩
open Classical in
noncomputable def rcL (T : List (List Bool)) (m a : Nat) : List Nat:=(ag m).filter fun x=>decide (Rch T m a x)
theorem rcL_mem {T : List (List Bool)} {m a x : Nat} : x∈rcL T m a↔x < m∧Rch T m a x:=by
 unfold rcL
 rw [ac,ad]
 exact and_congr_right fun _=>@decide_eq_true_iff _ (Classical.propDecidable _)
theorem rcL_len {T : List (List Bool)} {m a : Nat} : (rcL T m a).length≤m:=by
 have:=bc (fun x=>@decide (Rch T m a x) (Classical.propDecidable _)) (ag m)
 rw [bG] at this
 exact this
theorem y3q : ∀ ks : List Nat,z4J (ks.map ky)=some (ks.map fun n=>((n : Nat) : Int))
 | []=>rfl
 | k :: ks=>by
  show (z4J (ks.map ky)).map (fun ns=>(k : Int) :: ns)=_
  rw [y3q ks]
  rfl
theorem y2B {m : Nat} {T : List (List Bool)} (sq : Sq m T) (hm : m≤60) {a : Nat} (ha : a < m) : z2S [z0B T,.int (a : Int)]=some (thD (rcL T m a)):=by
 refine z0D rfl ?_
 obtain ⟨d,e,ks,vs,rfl,P,C⟩:=y5Z sq (by omega) ha
 have hl:=P.len
 have hin : ∀ x,x∈ks↔x∈rcL T m a:=fun x=>by
  rw [rcL_mem]
  refine ⟨fun h=>⟨P.lt x h,P.rc x h⟩,fun h=>?_⟩
  have : ∀ y,Rch T m a y->y∈ks:=fun y r=>by
   induction r with
   | here=>exact P.on
   | step r1 hy h ih=>exact C _ ih _ hy h
  exact this x h.2
 have nd2 : (rcL T m a).Nodup:=List.Pairwise.filter _ bp
 have pm : ((rcL T m a).map fun n=>((n : Nat) : Int)).Perm (ks.map fun n=>((n : Nat) : Int)):=((bq nd2 P.nd).mpr fun x=>(hin x).symm).map _
 have so : ((rcL T m a).map fun n=>((n : Nat) : Int)).Pairwise (· ≤ ·):=by
  rw [aY]
  refine List.Pairwise.imp ?_ (List.Pairwise.filter _ br)
  intro x y h
  omega
 have es:=z4j pm so
 have st : z9i [stD ks vs]=some ((rcL T m a).map nD):=by
  show ((z4J (ks.map ky)).bind fun ns=>if ns.length < 64 then some ((z5F ns).map D.int) else none)=_
  rw [y3q,ax,if_pos (by rw [aq]; omega),← es,aR]
  rfl
 simp! only [z6c,e,st,z1I,z8N,z0e]
noncomputable def y2J (T : List (List Bool)) (m : Nat) : List Nat:=(ag m).map fun a=>(rcL T m a).length
noncomputable def plL (cs : List Nat) (c : Nat) : List Nat:=(cs.zipIdx.filter fun z=>decide ((z.1 : Int)=(c : Int))).map fun z=>z.2
theorem plL_mem {cs : List Nat} {c i : Nat} : i∈plL cs c↔cs[i]? = some c:=by
 unfold plL
 rw [aI]
 constructor
 ·rintro ⟨z,hz,rfl⟩
  obtain ⟨h1,h2⟩:=ac.mp hz
  have h2 : z.1=c:=by have:=of_decide_eq_true h2; omega
  have:=dq.mp h1
  rw [this,h2]
 ·intro h
  exact ⟨(c,i),ac.mpr ⟨dq.mpr h,decide_eq_true rfl⟩,rfl⟩
theorem y2a {cs : List Nat} (hl : cs.length≤1000) (c : Nat) : z1n [thD cs,.int (c : Int)]=some (thD (plL cs c)):=by
 refine z0D rfl ?_
 have cx : z1Q (some (z0s 0 (cs.map nD))) (two (z4c (z1v (d2 eqD (z0d 3) (z0d 1))) (z0d 2) [some (thD cs),some (.int (c : Int))]))=some ((plL cs c).map nD):=by
  rw [y8r (enc:=nD) (fun _ x=>decide ((x : Int)=(c : Int))) (fun i _=>nD i) hl (fun i h=>by simp! only [nD]) fun i h _=>by simp! only []; rfl]
  unfold plL
  rw [aR]
  rfl
 simp! only [z3k,y4u,cx,z1I,z8N,z0e]
noncomputable def dnL (m : Nat) : List Nat:=(ag m).map fun i=>m - i
noncomputable def rgL (T : List (List Bool)) (m : Nat) : List (List Nat):=((dnL m).filter fun c=>(y2J T m).contains c).map fun c=>plL (y2J T m) c
theorem eo_rngN {i j c : Int} (h : c = -1∧-(2 ^ 61)≤i∧i < 2 ^ 61∧-(2 ^ 61)≤j∧j < 2 ^ 61) : rngN (some (.int i)) (some (.int j)) (some (.int c))=some (y4E i (-1) (i - j).toNat):=if_pos h
theorem y1B {m : Nat} {T : List (List Bool)} (sq : Sq m T) (hm : m≤60) : z5d [z0B T]=some (.lst ((rgL T m).map thD)):=by
 refine z0D rfl ?_
 have hcl : (y2J T m).length=m:=by simp [y2J]
 have c1 : z1Q (some (z4A 0 m)) (z2m z2Y (z0j z3z [z0j z2S [z0d 0,z0d 2]]) [some (z0B T),none])=some ((y2J T m).map nD):=by
  rw [z3l,z2o (enc:=nD) (xs:=ag m) (fun a=>nD (rcL T m a).length) (by simp; omega) fun a ha=>by simp! only [nD,y2B sq hm (ad.mp ha),z5u]]
  unfold y2J
  rw [aR]
  rfl
 have rn : rngN (some (.int (m : Int))) (some (.int 0)) (some (.int (-1)))=some ((dnL m).map nD):=by
  have hz : ((m : Int) - 0).toNat=m:=by omega
  have e1 : rngN (some (.int (m : Int))) (some (.int 0)) (some (.int (-1)))=some (y4E (m : Int) (-1) ((m : Int) - 0).toNat):=eo_rngN ⟨rfl,by omega,by omega,by omega,by omega⟩
  have e2 : y4E (m : Int) (-1) m=(dnL m).map nD:=by
   unfold y4E dnL
   rw [aR]
   refine cQ fun i hi=>?_
   have:=ad.mp hi
   have e : (m : Int) + (i : Int) * (-1)=((m - i : Nat) : Int):=by omega
   exact congrArg D.int e
  rw [e1,hz,e2]
 have c2 : z1Q (some ((dnL m).map nD)) (z2m (z1v (d2 inD (z0d 2) (z0d 1))) (z0j z1n [z0d 1,z0d 2]) [some (z0B T),some (thD (y2J T m))])=some ((rgL T m).map thD):=by
  rw [z8W (enc:=nD) (xs:=dnL m) (fun c=>(y2J T m).contains c) (fun c=>thD (plL (y2J T m) c)) (by simp [dnL]; omega) (fun c hc=>by simp! only [nD,in_ths]) fun c hc _=>by simp! only [nD,y2a (show (y2J T m).length≤1000 by omega)]]
  unfold rgL
  rw [aR]
  rfl
 simp! only [y0C,z1P,sq.1,z2q (show m≤1000000 by omega),c1,z1I,z8N,rn,c2,z0e]
theorem Rch.trans {T : List (List Bool)} {m a b c : Nat} (h : Rch T m a b) (h2 : Rch T m b c) : Rch T m a c:=by
 induction h2 with
 | here=>exact h
 | step _ hy e ih=>exact .step ih hy e
theorem rch_tot {T : List (List Bool)} {m a b : Nat} (F : Full m T) (ha : a < m) (hb : b < m) : Rch T m a b∨Rch T m b a:=by
 by_cases e : a=b
 ·rw [e]; exact .inl .here
 ·cases h : at2 T a b with
  | true=>exact .inl (.step .here hb h)
  | false=>exact .inr (.step .here ha (by rw [F.two b hb a ha (Ne.symm e),h]; rfl))
theorem y8v {T : List (List Bool)} {m a : Nat} : (rcL T m a).Nodup:=List.Pairwise.filter _ bp
theorem y0w {T : List (List Bool)} {m a b : Nat} (F : Full m T) (ha : a < m) (hb : b < m) : Rch T m a b↔(rcL T m b).length≤(rcL T m a).length:=by
 constructor
 ·intro h
  exact List.Nodup.length_le_of_subset y8v fun x hx=>rcL_mem.mpr ⟨(rcL_mem.mp hx).1,h.trans (rcL_mem.mp hx).2⟩
 ·intro h
  by_cases hn : Rch T m a b
  ·exact hn
  ·have h2 : Rch T m b a:=(rch_tot F ha hb).resolve_left hn
   have nd : (b :: rcL T m a).Nodup:=aC.mpr ⟨fun z=>hn (rcL_mem.mp z).2,y8v⟩
   have : (b :: rcL T m a).length≤(rcL T m b).length:=List.Nodup.length_le_of_subset nd fun x hx=>by
    rcases ai.mp hx with z | z
    ·rw [z]; exact rcL_mem.mpr ⟨hb,.here⟩
    ·exact rcL_mem.mpr ⟨(rcL_mem.mp z).1,h2.trans (rcL_mem.mp z).2⟩
   rw [a8] at this
   omega
theorem z8V {T : List (List Bool)} {m a b : Nat} (F : Full m T) (ha : a < m) (hb : b < m) (h : (rcL T m b).length < (rcL T m a).length) : at2 T a b=true:=by
 cases e : at2 T a b with
 | true=>rfl
 | false=>
  have hab : a≠b:=fun z=>by rw [z] at h; omega
  have h1 : Rch T m b a:=.step .here ha (by rw [F.two b hb a ha (Ne.symm hab),e]; rfl)
  have:=(y0w F hb ha).mp h1
  omega
theorem rch_pos {T : List (List Bool)} {m a : Nat} (ha : a < m) : 0 < (rcL T m a).length:=dS (rcL_mem.mpr ⟨ha,.here⟩)
theorem uniqL {α : Type} {R : α->α->Prop} (as : ∀ x y,R x y->R y x->False) : ∀ {l l' : List α},l.Pairwise R->l'.Pairwise R->(∀ x,x∈l↔x∈l')->l=l'
 | [],[],_,_,_=>rfl
 | [],b :: l',_,_,h=>by have:=(h b).mpr ah; cases this
 | a :: l,[],_,_,h=>by have:=(h a).mp ah; cases this
 | a :: l,b :: l',p,p',h=>by
  have p1:=aU.mp p
  have p2:=aU.mp p'
  have e : a=b:=by
   rcases ai.mp ((h a).mp ah) with z | z
   ·exact z
   ·rcases ai.mp ((h b).mpr ah) with y | y
    ·exact y.symm
    ·exact (as a b (p1.1 b y) (p2.1 a z)).elim
  subst e
  refine congrArg _ (uniqL as p1.2 p2.2 fun x=>⟨fun hx=>?_,fun hx=>?_⟩)
  ·rcases ai.mp ((h x).mp (ak _ hx)) with z | z
   ·subst z; exact (as x x (p1.1 x hx) (p1.1 x hx)).elim
   ·exact z
  ·rcases ai.mp ((h x).mpr (ak _ hx)) with z | z
   ·subst z; exact (as x x (p2.1 x hx) (p2.1 x hx)).elim
   ·exact z
noncomputable def Upp (f : Nat->Nat) (r s : List Nat) : Prop:=r≠[]∧s≠[]∧∀ a∈r,∀ b∈s,f b < f a
noncomputable def cls (m : Nat) (f : Nat->Nat) (a : Nat) : List Nat:=(ag m).filter fun b=>decide (f b=f a)
structure Rgs (m : Nat) (f : Nat->Nat) (L : List (List Nat)) : Prop where
 pw : L.Pairwise (Upp f)
 mem : ∀ r,r∈L↔∃ a < m,r=cls m f a
theorem y2s {cs : List Nat} {c : Nat} : (plL cs c).Pairwise (· < ·):=by
 unfold plL
 rw [aY]
 refine List.Pairwise.filter _ ?_
 have h : (cs.zipIdx.map fun z=>z.2).Pairwise (· < ·):=by
  rw [show (cs.zipIdx.map fun z=>z.2)=dh 0 cs.length from List.zipIdx_map_snd 0 cs]
  exact List.pairwise_lt_range'
 exact aY.mp h
theorem y4V {T : List (List Bool)} {m : Nat} : Rgs m (fun a=>(rcL T m a).length) (rgL T m):=by
 have hc : ∀ a c,(y2J T m)[a]? = some c↔a < m∧(rcL T m a).length=c:=fun a c=>by
  unfold y2J
  rw [aN]
  by_cases h : a < m
  ·rw [cS h]
   simp [h]
  ·rw [bM (by simp; omega)]
   simp [h]
 have pe : ∀ a < m,plL (y2J T m) (rcL T m a).length=cls m (fun a=>(rcL T m a).length) a:=fun a ha=>
  uniqL (R:=(· < ·)) (fun x y h h'=>by omega) y2s (List.Pairwise.filter _ br) fun x=>by
   rw [plL_mem,hc]
   unfold cls
   rw [ac,ad,decide_eq_true_iff]
 refine ⟨?_,fun r=>?_⟩
 ·unfold rgL
  rw [aY]
  have hd : (dnL m).Pairwise (· > ·):=by
   unfold dnL
   rw [aY]
   refine List.Pairwise.imp_of_mem ?_ br
   intro x y hx hy h
   have:=ad.mp hy
   show m - y < m - x
   omega
  refine List.Pairwise.imp_of_mem ?_ (List.Pairwise.filter _ hd)
  intro c d hcm hdm hcd
  have hcm:=(ac.mp hcm).2
  have hdm:=(ac.mp hdm).2
  obtain ⟨i,hi⟩:=cP (aM.mp hcm)
  obtain ⟨j,hj⟩:=cP (aM.mp hdm)
  refine ⟨b7 (plL_mem.mpr hi),b7 (plL_mem.mpr hj),fun a ha b hb=>?_⟩
  have h1:=(hc a c).mp (plL_mem.mp ha)
  have h2:=(hc b d).mp (plL_mem.mp hb)
  show (rcL T m b).length < (rcL T m a).length
  have : c > d:=hcd
  omega
 ·unfold rgL
  rw [aI]
  constructor
  ·rintro ⟨c,hcm,rfl⟩
   have hcm:=(ac.mp hcm).2
   obtain ⟨i,hi⟩:=cP (aM.mp hcm)
   have h1:=(hc i c).mp hi
   exact ⟨i,h1.1,by rw [← h1.2,pe i h1.1]⟩
  ·rintro ⟨a,ha,rfl⟩
   refine ⟨(rcL T m a).length,ac.mpr ⟨?_,aM.mpr (ez ((hc a _).mpr ⟨ha,rfl⟩))⟩,pe a ha⟩
   unfold dnL
   have h1:=rcL_len (T:=T) (m:=m) (a:=a)
   have h2:=rch_pos (T:=T) ha
   exact aI.mpr ⟨m - (rcL T m a).length,ad.mpr (by omega),by omega⟩
noncomputable def wk (T : List (List Bool)) : Nat->List Nat->Prop
 | _,[]=>True
 | x,y :: r=>at2 T x y=true∧wk T y r
noncomputable def lsN : Nat->List Nat->Nat
 | x,[]=>x
 | _,y :: r=>lsN y r
structure Cyc (T : List (List Bool)) (c : Nat) (r : List Nat) : Prop where
 nd : (c :: r).Nodup
 wk : wk T c r
 cl : r≠[]->at2 T (lsN c r) c=true
inductive Det (T : List (List Bool)) (L : List Nat) (h b : Nat) : List Nat->Prop
 | one {x : Nat} : x∈L->at2 T h x=true->at2 T x b=true->Det T L h b [x]
 | two {x y : Nat} : x∈L->y∈L->at2 T h x=true->at2 T x y=true->at2 T y b=true->Det T L h b [x,y]
noncomputable def Stg (T : List (List Bool)) (R : List Nat) : Prop:=∀ S : Nat->Prop,(∃ x∈R,S x)->(∃ y∈R,¬S y)->∃ x∈R,∃ y∈R,S x∧¬S y∧at2 T x y=true
theorem Full.tot {m : Nat} {T : List (List Bool)} (F : Full m T) {x y : Nat} (hx : x < m) (hy : y < m) (hne : x≠y) : at2 T x y=true∨at2 T y x=true:=by
 have:=F.two x hx y hy hne
 cases h : at2 T x y with
 | true=>exact .inl rfl
 | false=>
  rw [h] at this
  cases h2 : at2 T y x with
  | true=>exact .inr rfl
  | false=>rw [h2] at this; cases this
theorem Full.no {m : Nat} {T : List (List Bool)} (F : Full m T) {x y : Nat} (hx : x < m) (hy : y < m) (h1 : at2 T x y=true) (h2 : at2 T y x=true) : False:=by
 by_cases hne : x=y
 ·subst hne
  rw [F.own x hx] at h1
  cases h1
 ·have:=F.two x hx y hy hne
  rw [h1,h2] at this
  cases this
theorem y6h {m : Nat} {T : List (List Bool)} (F : Full m T) {a : Nat} : Stg T (cls m (fun a=>(rcL T m a).length) a):=by
 rintro S ⟨x0,hx0,sx⟩ ⟨y0,hy0,sy⟩
 apply Classical.byContradiction
 intro hn
 obtain ⟨hx1,hx2⟩:=ac.mp hx0
 obtain ⟨hy1,hy2⟩:=ac.mp hy0
 have hx1:=ad.mp hx1
 have hy1:=ad.mp hy1
 have hx2 : (rcL T m x0).length=(rcL T m a).length:=of_decide_eq_true hx2
 have hy2 : (rcL T m y0).length=(rcL T m a).length:=of_decide_eq_true hy2
 have hr : Rch T m x0 y0:=(y0w F hx1 hy1).mpr (by omega)
 have key : ∀ z,Rch T m x0 z->z < m∧((rcL T m z).length < (rcL T m a).length∨((rcL T m z).length=(rcL T m a).length∧S z)):=fun z h=>by
  induction h with
  | here=>exact ⟨hx1,.inr ⟨hx2,sx⟩⟩
  | @step x y _ hy hxy ih=>
   refine ⟨hy,?_⟩
   have le : (rcL T m y).length≤(rcL T m x).length:=(y0w F ih.1 hy).mp (.step .here hy hxy)
   rcases ih.2 with q | ⟨q1,q2⟩
   ·exact .inl (by omega)
   ·by_cases hc : (rcL T m y).length=(rcL T m a).length
    ·refine .inr ⟨hc,Classical.byContradiction fun ns=>hn ⟨x,ac.mpr ⟨ad.mpr ih.1,decide_eq_true q1⟩,y,ac.mpr ⟨ad.mpr hy,decide_eq_true hc⟩,q2,ns,hxy⟩⟩
    ·exact .inl (by omega)
 rcases (key y0 hr).2 with q | q
 ·omega
 ·exact sy q.2
noncomputable def Md (T : List (List Bool)) (m : Nat) (S : Nat->Prop) : Prop:=∀ o < m,¬S o->(∀ x < m,S x->at2 T o x=true)∨∀ x < m,S x->at2 T o x=false
theorem brk_no {T : List (List Bool)} {o : Nat} {th : List Nat} : brk T o th=false↔(o∈th∨(∀ x∈th,at2 T o x=true)∨∀ x∈th,at2 T o x=false):=by
 unfold brk y2f
 constructor
 ·intro h
  by_cases ho : o∈th
  ·exact .inl ho
  ·have hc : th.contains o=false:=by rw [← cI,aM]; exact ho
   rw [hc] at h
   have key : ∀ X : Bool,(!false && !X)=false->X=true:=by decide
   have h:=key _ h
   rcases cT.mp h with q | q
   ·exact .inr (.inl (aS.mp q))
   ·have q : (th.any fun j=>at2 T o j)=false:=by simpa using q
    exact .inr (.inr fun x hx=>by
     have:=cE.mp q x hx
     simpa using this)
 ·rintro (h | h | h)
  ·rw [aM.mpr h]; rfl
  ·rw [aS.mpr h]; simp
  ·have : (th.any fun j=>at2 T o j)=false:=cE.mpr fun x hx=>by rw [h x hx]; exact ao
   rw [this]; simp
theorem z9j {T : List (List Bool)} {m : Nat} {A : List Nat} (lt : ∀ x∈A,x < m) : togB T m A=true↔Md T m fun x=>x∈A:=by
 unfold togB
 rw [aS]
 constructor
 ·intro h o ho hn
  have:=h o (ad.mpr ho)
  have:=brk_no.mp (show brk T o A=false by simpa using this)
  rcases this with q | q | q
  ·exact absurd q hn
  ·exact .inl fun x _ hx=>q x hx
  ·exact .inr fun x _ hx=>q x hx
 ·intro h o ho
  have ho:=ad.mp ho
  have : brk T o A=false:=by
   rw [brk_no]
   by_cases hn : o∈A
   ·exact .inl hn
   ·rcases h o ho hn with q | q
    ·exact .inr (.inl fun x hx=>q x (lt x hx) hx)
    ·exact .inr (.inr fun x hx=>q x (lt x hx) hx)
  rw [this]
  rfl
theorem Rea.least {T : List (List Bool)} {m : Nat} {W A : List Nat} (h : Rea T m W A) {S : Nat->Prop} (hS : Md T m S) : (∀ x∈W,x < m∧S x)->∀ x∈A,S x:=by
 induction h with
 | here W=>exact fun hw x hx=>(hw x hx).2
 | @step W V hn _ ih=>
  refine fun hw=>ih fun x hx=>?_
  obtain ⟨h1,h2⟩:=ac.mp hx
  have h1:=ad.mp h1
  refine ⟨h1,?_⟩
  rcases cT.mp h2 with q | q
  ·exact (hw x (aM.mp q)).2
  ·apply Classical.byContradiction
   intro hsx
   have : brk T x W=false:=by
    rw [brk_no]
    rcases hS x h1 hsx with w | w
    ·exact .inr (.inl fun y hy=>w y (hw y hy).1 (hw y hy).2)
    ·exact .inr (.inr fun y hy=>w y (hw y hy).1 (hw y hy).2)
   rw [this] at q
   cases q
theorem Rea.more {T : List (List Bool)} {m : Nat} {W A : List Nat} (h : Rea T m W A) : (∀ x∈W,x < m)->∀ x∈W,x∈A:=by
 induction h with
 | here W=>exact fun _ x hx=>hx
 | @step W V hn _ ih=>
  intro lt x hx
  refine ih (fun y hy=>ad.mp (ac.mp hy).1) x (ac.mpr ⟨ad.mpr (lt x hx),?_⟩)
  rw [aM.mpr hx]
  rfl
noncomputable def Bg (T : List (List Bool)) (m a o : Nat) : Prop:=∀ S : Nat->Prop,Md T m S->S a->S o->∀ x < m,S x
theorem y6k {T : List (List Bool)} {m : Nat} (F : Full m T) (hs : Stg T (ag m)) {A B : Nat->Prop} (hA : Md T m A) (hB : Md T m B) {a : Nat} (ha : a < m) (aA : A a) (aB : B a) (pA : ∃ y < m,¬A y) (pB : ∃ y < m,¬B y) : Md T m (fun x=>A x∨B x)∧∃ y < m,¬(A y∨B y):=by
 refine ⟨fun o ho hn=>?_,?_⟩
 ·have nA : ¬A o:=fun z=>hn (.inl z)
  have nB : ¬B o:=fun z=>hn (.inr z)
  rcases hA o ho nA with p | p
  ·rcases hB o ho nB with q | q
   ·exact .inl fun x hx h=>h.elim (p x hx) (q x hx)
   ·have:=p a ha aA
    rw [q a ha aB] at this
    cases this
  ·rcases hB o ho nB with q | q
   ·have:=q a ha aB
    rw [p a ha aA] at this
    cases this
   ·exact .inr fun x hx h=>h.elim (p x hx) (q x hx)
 ·apply Classical.byContradiction
  intro hn
  have cov : ∀ y < m,A y∨B y:=fun y hy=>Classical.byContradiction fun z=>hn ⟨y,hy,z⟩
  have side : ∀ (A B : Nat->Prop),Md T m A->Md T m B->(∀ y < m,A y∨B y)->∀ x < m,∀ y < m,¬B x->¬A y->at2 T x y=true->False:=fun A B hA hB cov x hx y hy nx ny hxy=>by
   have Ax : A x:=(cov x hx).resolve_right nx
   have By : B y:=(cov y hy).resolve_left ny
   have yA : ∀ z < m,A z->at2 T y z=false:=by
    rcases hA y hy ny with p | p
    ·exact absurd (p x hx Ax) fun w=>F.no hx hy hxy w
    ·exact p
   have Ay : ∀ z < m,A z->at2 T z y=true:=fun z hz az=>by
    have hne : z≠y:=fun e=>ny (e ▸ az)
    rcases F.tot hz hy hne with w | w
    ·exact w
    ·rw [yA z hz az] at w; cases w
   have all : ∀ z < m,¬B z->∀ w < m,B w->at2 T z w=true:=fun z hz nz w hw bw=>by
    have az : A z:=(cov z hz).resolve_right nz
    rcases hB z hz nz with p | p
    ·exact p w hw bw
    ·have:=Ay z hz az
     rw [p y hy By] at this
     cases this
   obtain ⟨u,hu,v,hv,bu,nv,huv⟩:=hs B ⟨y,ad.mpr hy,By⟩ ⟨x,ad.mpr hx,nx⟩
   have hu:=ad.mp hu
   have hv:=ad.mp hv
   exact F.no hu hv huv (all v hv nv u hu bu)
  obtain ⟨y,hy,ny⟩:=pA
  obtain ⟨x,hx,nx⟩:=pB
  have hne : x≠y:=fun e=>by
   subst e
   rcases cov x hx with q | q
   ·exact ny q
   ·exact nx q
  rcases F.tot hx hy hne with w | w
  ·exact side A B hA hB cov x hx y hy nx ny w
  ·exact side B A hB hA (fun z hz=>(cov z hz).symm) y hy x hx ny nx w
theorem md_one {T : List (List Bool)} {m a : Nat} : Md T m fun x=>x=a:=fun o _ _=>by
 cases h : at2 T o a with
 | true=>exact .inl fun x _ e=>by rw [e]; exact h
 | false=>exact .inr fun x _ e=>by rw [e]; exact h
noncomputable def Cg (T : List (List Bool)) (m a x : Nat) : Prop:=x < m∧(x=a∨¬Bg T m a x)
theorem y8e {T : List (List Bool)} {m : Nat} (F : Full m T) (hs : Stg T (ag m)) (h2 : 2≤m) {a : Nat} (ha : a < m) : Md T m (Cg T m a)∧∃ y < m,¬Cg T m a y:=by
 have ex : ∀ l : List Nat,∃ S : Nat->Prop,Md T m S∧S a∧(∃ y < m,¬S y)∧∀ o∈l,o < m->¬Bg T m a o->S o:=fun l=>by
  induction l with
  | nil=>
   refine ⟨fun x=>x=a,md_one,rfl,?_,fun o ho=>nomatch ho⟩
   by_cases h0 : a=0
   ·exact ⟨1,by omega,by omega⟩
   ·exact ⟨0,by omega,fun e=>h0 e.symm⟩
  | cons o l ih=>
   obtain ⟨S,m1,s1,p1,all⟩:=ih
   by_cases ho : o < m∧¬Bg T m a o
   ·have : ∃ S' : Nat->Prop,Md T m S'∧S' a∧S' o∧∃ x < m,¬S' x:=Classical.byContradiction fun hn=>ho.2 fun S' q1 q2 q3 x hx=>Classical.byContradiction fun nx=>hn ⟨S',q1,q2,q3,x,hx,nx⟩
    obtain ⟨S',q1,q2,q3,q4⟩:=this
    obtain ⟨u1,u2⟩:=y6k F hs m1 q1 ha s1 q2 p1 q4
    refine ⟨fun x=>S x∨S' x,u1,.inl s1,u2,fun z hz hzm hb=>?_⟩
    rcases ai.mp hz with e | e
    ·rw [e]; exact .inr q3
    ·exact .inl (all z e hzm hb)
   ·refine ⟨S,m1,s1,p1,fun z hz hzm hb=>?_⟩
    rcases ai.mp hz with e | e
    ·exact absurd ⟨e ▸ hzm,e ▸ hb⟩ ho
    ·exact all z e hzm hb
 obtain ⟨S,m1,s1,⟨y,hy,ny⟩,all⟩:=ex (ag m)
 have iff : ∀ x < m,Cg T m a x↔S x:=fun x hx=>by
  constructor
  ·rintro ⟨_,h | h⟩
   ·rw [h]; exact s1
   ·exact all x (ad.mpr hx) hx h
  ·intro h
   exact ⟨hx,.inr fun hb=>ny (hb S m1 s1 h y hy)⟩
 refine ⟨fun o ho hn=>?_,y,hy,fun z=>ny ((iff y hy).mp z)⟩
 rcases m1 o ho fun z=>hn ((iff o ho).mpr z) with p | p
 ·exact .inl fun x hx h=>p x hx ((iff x hx).mp h)
 ·exact .inr fun x hx h=>p x hx ((iff x hx).mp h)
theorem y4a {T : List (List Bool)} {m : Nat} (F : Full m T) (hs : Stg T (ag m)) (h2 : 2≤m) {a x : Nat} (ha : a < m) (h : Cg T m a x) {z : Nat} (hz : Cg T m a z) : Cg T m x z:=by
 obtain ⟨m1,y,hy,ny⟩:=y8e F hs h2 ha
 exact ⟨hz.1,.inr fun hb=>ny (hb _ m1 h hz y hy)⟩
theorem z6s {T : List (List Bool)} {m : Nat} (F : Full m T) (hs : Stg T (ag m)) (h2 : 2≤m) {a x : Nat} (ha : a < m) (h : Cg T m a x) (z : Nat) : Cg T m a z↔Cg T m x z:=by
 have ha' : Cg T m a a:=⟨ha,.inl rfl⟩
 exact ⟨fun q=>y4a F hs h2 ha h q,fun q=>y4a F hs h2 h.1 (y4a F hs h2 ha h ha') q⟩
theorem y4C (o : List Nat) : o.map nD=(o.map fun n=>((n : Nat) : Int)).map D.int:=by rw [aR]; rfl
theorem okP_lls (L : List (List Nat)) : okP (.lst (L.map thD))=true:=by
 have h1 : ∀ L : List (List Nat),PyData.canLayAll0 (z4F (L.map thD))=true:=fun L=>by
  induction L with
  | nil=>rfl
  | cons r L ih=>
   show (PyData.canLayAll0 (z4F (r.map nD)) && PyData.canLayAll0 (z4F (L.map thD)))=true
   rw [ih,y4C,z7o]
   rfl
 have h2 : ∀ L : List (List Nat),PyData.depthAll (z4F (L.map thD))≤1:=fun L=>by
  induction L with
  | nil=>decide
  | cons r L ih=>
   show max (PyData.depthAll (z4F (r.map nD)) + 1) (PyData.depthAll (z4F (L.map thD)))≤1
   rw [y4C,z7Z]
   omega
 unfold okP
 rw [aJ,decide_eq_true_eq]
 refine ⟨h1 L,?_⟩
 show PyData.depthAll (z4F (L.map thD)) + 1≤60
 have:=h2 L
 omega
theorem y8s : ∀ {a b : List Nat},PyData.eqvAll (z4F (a.map nD)) (z4F (b.map nD))=decide (a=b)
 | [],[]=>by simp; rfl
 | [],_ :: _=>by simp; rfl
 | _ :: _,[]=>by simp; rfl
 | x :: a,y :: b=>by
  have ih:=y8s (a:=a) (b:=b)
  show (((x : Int) == (y : Int)) && PyData.eqvAll (z4F (a.map nD)) (z4F (b.map nD)))=_
  rw [ih]
  by_cases h : x=y
  ·subst h; simp
  ·have h1 : ((x : Int) == (y : Int))=false:=by rw [beq_eq_false_iff_ne]; omega
   have h2 : ¬(x :: a=y :: b):=fun e=>h (List.cons.inj e).1
   rw [h1,decide_eq_false h2]
   rfl
theorem mem_lls {w : List Nat} {L : List (List Nat)} : y4g (thD w) (llD L)=some (L.contains w):=by
 unfold llD y4g
 show (if (okP (thD w) && okP (.lst (L.map thD)))=true then _ else none)=_
 rw [okP_lls,y4b]
 show some ((L.map thD).any fun y=>PyData.eqv (toP y) (toP (thD w)))=_
 congr 1
 rw [ca,cG]
 congr 1
 funext x
 show PyData.eqvAll (z4F (x.map nD)) (z4F (w.map nD))=(w == x)
 rw [y8s]
 by_cases h : x=w
 ·subst h; simp
 ·have : ¬w=x:=fun e=>h e.symm
  simp [h,this]
theorem y5k {w : List Nat} {L : List (List Nat)} : y8a (thD w) (llD L)=some (.bl (!L.contains w)):=by
 unfold y8a
 rw [mem_lls]
 rfl
theorem y5S {m : Nat} {T : List (List Bool)} (sq : Sq m T) (hm : m≤8) {a o : Nat} (ha : a < m) (ho : o < m) : ∃ b,z1a [z0B T,.int (a : Int),.int (o : Int)]=some (.bl b)∧(b=true↔Bg T m a o):=by
 have lt : ∀ x∈[a,o],x < m:=fun x hx=>by
  rcases ai.mp hx with z | z
  ·rw [z]; exact ha
  ·rw [am.mp z]; exact ho
 obtain ⟨_,e,A,rfl,hr,hp,R⟩:=y2D sq hm (th:=[a,o]) lt (by simp)
 refine ⟨decide ((A.length : Int)=(m : Int)),z0D rfl ?_,?_⟩
 ·have t2 : D.lst [.int (a : Int),.int (o : Int)]=thD [a,o]:=rfl
  simp! only [z2L,t2,e,z5u,z1P,sq.1,z0e]
 ·rw [decide_eq_true_iff]
  constructor
  ·intro hl S hS sa so x hx
   have hx:=y4D R.nd R.lt (by omega) x hx
   refine hr.least hS (fun y hy=>?_) x hx
   have:=(z5s lt).mp hy
   refine ⟨lt y this,?_⟩
   rcases ai.mp this with z | z
   ·rw [z]; exact sa
   ·rw [am.mp z]; exact so
  ·intro h
   have w0lt : ∀ x∈w0 m [a,o],x < m:=fun x hx=>lt x ((z5s lt).mp hx)
   have:=h (fun x=>x∈A) ((z9j R.lt).mp (tog_of hp)) (hr.more w0lt a ((z5s lt).mpr (by simp))) (hr.more w0lt o ((z5s lt).mpr (by simp)))
   have h1:=List.Nodup.length_le_of_subset (l₂:=A) (bp (n:=m)) fun x hx=>this x (ad.mp hx)
   rw [bG] at h1
   have:=R.len
   omega
open Classical in
noncomputable def gwL (T : List (List Bool)) (m a : Nat) : List Nat:=(ag m).filter fun o=>decide (Cg T m a o)
theorem gw_mem {T : List (List Bool)} {m a x : Nat} : x∈gwL T m a↔Cg T m a x:=by
 unfold gwL
 rw [ac,ad]
 constructor
 ·rintro ⟨_,h⟩
  exact @of_decide_eq_true _ (Classical.propDecidable _) h
 ·intro h
  exact ⟨h.1,@decide_eq_true _ (Classical.propDecidable _) h⟩
theorem gw_ris {T : List (List Bool)} {m a : Nat} : Ris m (gwL T m a):=ris_fil
open Classical in
theorem z9V {m : Nat} {T : List (List Bool)} (sq : Sq m T) (hm : m≤8) {a : Nat} (ha : a < m) : z1e [z0B T,.int (a : Int)]=some (thD (gwL T m a)):=by
 refine z0D rfl ?_
 have cx : z1Q (some (z4A 0 m)) (z2m (dOrT (z1v (d2 eqD (z0d 2) (z0d 1))) (z6C (z1t (z0j z1a [z0d 0,z0d 1,z0d 2])))) (z0d 2) [some (z0B T),some (.int (a : Int))])=some ((gwL T m a).map nD):=by
  rw [z3l]
  refine z8W (fun o=>decide (Cg T m a o)) nD (by simp; omega) (fun o ho=>?_) fun o _ _=>by simp! only []
  have ho:=ad.mp ho
  obtain ⟨b,e,hb⟩:=y5S sq hm ha ho
  simp! only [nD,e]
  congr 1
  rw [cr,cT,decide_eq_true_iff,decide_eq_true_iff]
  unfold Cg
  constructor
  ·rintro (h | h)
   ·exact ⟨ho,.inl (by omega)⟩
   ·exact ⟨ho,.inr fun z=>by rw [hb.mpr z] at h; cases h⟩
  ·rintro ⟨_,h | h⟩
   ·exact .inl (by omega)
   ·refine .inr ?_
    cases b with
    | false=>rfl
    | true=>exact absurd (hb.mp rfl) h
 simp! only [z2v,z1P,sq.1,z2q (show m≤1000000 by omega),cx,z1I,z0e]
 rfl
noncomputable def Mn (T : List (List Bool)) (m t : Nat) : Prop:=∀ s < t,¬Cg T m t s
open Classical in
noncomputable def ptL (T : List (List Bool)) (m k : Nat) : List (List Nat):=((ag k).filter fun t=>decide (Mn T m t)).map (gwL T m)
theorem pt_mem {T : List (List Bool)} {m k : Nat} {w : List Nat} : w∈ptL T m k↔∃ t < k,Mn T m t∧w=gwL T m t:=by
 unfold ptL
 rw [aI]
 constructor
 ·rintro ⟨t,ht,rfl⟩
  obtain ⟨h1,h2⟩:=ac.mp ht
  exact ⟨t,ad.mp h1,@of_decide_eq_true _ (Classical.propDecidable _) h2,rfl⟩
 ·rintro ⟨t,ht,h,rfl⟩
  exact ⟨t,ac.mpr ⟨ad.mpr ht,@decide_eq_true _ (Classical.propDecidable _) h⟩,rfl⟩
theorem gw_eq {T : List (List Bool)} {m a b : Nat} (h : ∀ z,Cg T m a z↔Cg T m b z) : gwL T m a=gwL T m b:=by
 unfold gwL
 exact cD fun x _=>by rw [cr,@decide_eq_true_iff _ (Classical.propDecidable _),@decide_eq_true_iff _ (Classical.propDecidable _)]; exact h x
theorem mn_of {T : List (List Bool)} {m : Nat} (F : Full m T) (hs : Stg T (ag m)) (h2 : 2≤m) : ∀ {t : Nat},t < m->∃ s≤t,Mn T m s∧Cg T m t s:=fun {t}=>by
 induction t using Nat.strongRecOn with
 | _ t ih=>
  intro ht
  by_cases hn : Mn T m t
  ·exact ⟨t,ar _,hn,ht,.inl rfl⟩
  ·have : ∃ s < t,Cg T m t s:=Classical.byContradiction fun z=>hn fun s hs hc=>z ⟨s,hs,hc⟩
   obtain ⟨s,hst,hc⟩:=this
   obtain ⟨u,hu,mu,cu⟩:=ih s hst hc.1
   exact ⟨u,by omega,mu,(z6s F hs h2 ht hc u).mpr cu⟩
theorem y7u {T : List (List Bool)} {m : Nat} (F : Full m T) (hs : Stg T (ag m)) (h2 : 2≤m) {k : Nat} (hk : k < m) : gwL T m k∈ptL T m k↔¬Mn T m k:=by
 rw [pt_mem]
 constructor
 ·rintro ⟨t,ht,mt,e⟩ hn
  refine hn t ht ?_
  have : t∈gwL T m t:=gw_mem.mpr ⟨by omega,.inl rfl⟩
  rw [← e] at this
  exact gw_mem.mp this
 ·intro hn
  obtain ⟨s,hs',ms,cs⟩:=mn_of F hs h2 hk
  have hlt : s < k:=by
   by_cases h : s=k
   ·rw [h] at ms; exact absurd ms hn
   ·omega
  exact ⟨s,hlt,ms,gw_eq (z6s F hs h2 hk cs)⟩
open Classical in
theorem y4v {T : List (List Bool)} {m k : Nat} : ptL T m (k + 1)=ptL T m k ++ if Mn T m k then [gwL T m k] else []:=by
 unfold ptL
 rw [List.range_succ,b8,a6,bB,List.filter_nil]
 by_cases h : Mn T m k
 ·rw [if_pos h,if_pos (decide_eq_true h)]; rfl
 ·rw [if_neg h,if_neg (by rw [decide_eq_false h]; exact ao)]; rfl
theorem pt_len {T : List (List Bool)} {m k : Nat} : (ptL T m k).length≤k:=by
 unfold ptL
 rw [aq]
 exact aQ (bc _ _) (by simp)
theorem y2W {m : Nat} {T : List (List Bool)} (F : Full m T) (hm : m≤8) (h0 : 0 < m) (hs : 2≤m->Stg T (ag m)) (hr : (rgL T m).length≤1) : z4z [z0B T]=some (llD (if 2≤m then ptL T m m else [[0]])):=by
 refine z0D rfl ?_
 have re:=y1B F.sq (show m≤60 by omega)
 have ll : z3z [.lst ((rgL T m).map thD)]=some (.int ((rgL T m).length : Int)):=by
  show some (D.int (((rgL T m).map thD).length : Int))=_
  rw [aq]
 have d1 : decide (((rgL T m).length : Int) > 1)=false:=decide_eq_false (by omega)
 obtain ⟨Lr,hLr⟩ : ∃ L,L=D.lst ((rgL T m).map thD):=⟨_,rfl⟩
 rw [← hLr] at re ll
 have nl : D.lst []=llD []:=rfl
 simp! only [z7S,re,ll,d1,z2F,nl,z1P,F.sq.1,z2q (show m≤1000000 by omega)]
 refine z0H (I:=fun s=>∃ o3 o4,s=[some (.sh (z0B T)),some (.ow Lr),some (.ow (llD (if 2≤m then ptL T m m else [[0]]))),o3,o4]) ?_ ?_
 ·refine z5j (fun k s=>∃ o3 o4,s=[some (.sh (z0B T)),some (.ow Lr),some (.ow (llD (if 2≤m then ptL T m k else if k=0 then [] else [[0]]))),o3,o4]) ⟨_,_,by
   have : (if 2≤m then ptL T m 0 else if 0=0 then [] else [[0]])=[]:=by split <;> rfl
   rw [this]⟩ ?_ fun s ⟨o3,o4,e⟩=>⟨s,rfl,o3,o4,by rw [e,if_neg (show ¬m=0 by omega)]⟩
  rintro k hk s ⟨o3,o4,rfl⟩
  have ge:=z9V F.sq hm hk
  have key : ∃ (L L' : List (List Nat)) (b : Bool),(if 2≤m then ptL T m k else if k=0 then [] else [[0]])=L∧(if 2≤m then ptL T m (k + 1) else if k + 1=0 then [] else [[0]])=L'∧(!L.contains (gwL T m k))=b∧(b=true->L'=L ++ [gwL T m k])∧(b=false->L'=L)∧L.length≤1000:=by
   by_cases h2 : 2≤m
   ·rw [if_pos h2,if_pos h2]
    refine ⟨_,_,_,rfl,rfl,rfl,fun hb=>?_,fun hb=>?_,aQ pt_len (by omega)⟩
    ·have hn : gwL T m k ∉ ptL T m k:=fun z=>by rw [aM.mpr z] at hb; cases hb
     have hmn : Mn T m k:=Classical.byContradiction fun z=>hn ((y7u F (hs h2) h2 hk).mpr z)
     rw [y4v,if_pos hmn]
    ·have hin : gwL T m k∈ptL T m k:=by
      rw [← aM]
      simpa using hb
     rw [y4v,if_neg ((y7u F (hs h2) h2 hk).mp hin),aL]
   ·rw [if_neg h2,if_neg h2]
    have hk0 : k=0:=by omega
    have hm1 : m=1:=by omega
    subst hk0
    subst hm1
    refine ⟨_,_,_,rfl,rfl,rfl,fun _=>?_,fun hb=>?_,by simp⟩
    ·have : gwL T 1 0=[0]:=by
      have h1 : ∀ x,x∈gwL T 1 0↔x=0:=fun x=>by
       rw [gw_mem]
       exact ⟨fun h=>by have:=h.1; omega,fun h=>⟨by omega,.inl h⟩⟩
      have up:=(gw_ris (T:=T) (m:=1) (a:=0)).up
      have ln:=(gw_ris (T:=T) (m:=1) (a:=0)).len
      cases hg : gwL T 1 0 with
      | nil=>have:=(h1 0).mpr rfl; rw [hg] at this; cases this
      | cons x r=>
       rw [hg] at ln
       have : r=[]:=bH.mp (by rw [a8] at ln; omega)
       have hx : x=0:=(h1 x).mp (by rw [hg]; exact ah)
       rw [this,hx]
     rw [this]
     rfl
    ·cases hb
  obtain ⟨L,L',b,e1,e2,e3,h1,h2,hl⟩:=key
  rw [e1,e2]
  have ap:=ap_map (enc:=thD) (xs:=L) (x:=gwL T m k) (i:=2) (j:=4) (s:=[some (.sh (z0B T)),some (.ow Lr),some (.ow (llD L)),some (.sh (.int (k : Int))),some (.ow (thD (gwL T m k)))]) (by omega)
  have ap : apX (some (thD (gwL T m k))) (some (llD L)) 2 4 [some (.sh (z0B T)),some (.ow Lr),some (.ow (llD L)),some (.sh (.int (k : Int))),some (.ow (thD (gwL T m k)))]=_:=ap
  have lL : ∀ Z : List (List Nat),D.lst (Z.map thD)=llD Z:=fun _=>rfl
  cases b with
  | true=>
   rw [h1 rfl]
   simp! only [cb,ge,y5k,e3,ap,lL,z0e]
   exact ⟨_,_,rfl⟩
  | false=>
   rw [h2 rfl]
   simp! only [cb,ge,y5k,e3,z0e]
   exact ⟨_,_,rfl⟩
 ·rintro s ⟨o3,o4,rfl⟩
  simp! only [z0e]
theorem y2n {m : Nat} {T : List (List Bool)} (F : Full m T) (hm : m≤8) (hr : 1 < (rgL T m).length) : z4z [z0B T]=some (llD (rgL T m)):=by
 refine z0D rfl ?_
 have re:=y1B F.sq (show m≤60 by omega)
 have ll : z3z [llD (rgL T m)]=some (.int ((rgL T m).length : Int)):=by
  show some (D.int (((rgL T m).map thD).length : Int))=_
  rw [aq]
 have re : z5d [z0B T]=some (llD (rgL T m)):=re
 have d1 : decide (((rgL T m).length : Int) > 1)=true:=decide_eq_true (by omega)
 simp! only [z7S,re,ll,d1,z0e]
theorem cls_up {m : Nat} {f : Nat->Nat} {a : Nat} : (cls m f a).Pairwise (· < ·):=List.Pairwise.filter _ br
theorem cls_lt {m : Nat} {f : Nat->Nat} {a x : Nat} (h : x∈cls m f a) : x < m:=ad.mp (ac.mp h).1
theorem cls_f {m : Nat} {f : Nat->Nat} {a x : Nat} (h : x∈cls m f a) : f x=f a:=of_decide_eq_true (ac.mp h).2
theorem y1a {m : Nat} {f : Nat->Nat} {a : Nat} (h : a < m) : a∈cls m f a:=ac.mpr ⟨ad.mpr h,decide_eq_true rfl⟩
theorem Rgs.perm {m : Nat} {f : Nat->Nat} {L : List (List Nat)} (h : Rgs m f L) : L.flatten.Perm (ag m):=by
 refine (bq ?_ bp).mpr fun x=>?_
 ·unfold List.Nodup
  rw [bL]
  refine ⟨fun r hr=>?_,h.pw.imp fun {r s} q=>?_⟩
  ·obtain ⟨a,_,rfl⟩:=(h.mem r).mp hr
   exact cls_up.imp fun h=>aH h
  ·intro x hx y hy e
   subst e
   have:=q.2.2 x hx x hy
   omega
 ·rw [bS,ad]
  constructor
  ·rintro ⟨r,hr,hx⟩
   obtain ⟨a,_,rfl⟩:=(h.mem r).mp hr
   exact cls_lt hx
  ·intro hx
   exact ⟨cls m f x,(h.mem _).mpr ⟨x,hx,rfl⟩,y1a hx⟩
theorem Rgs.cons {m : Nat} {f : Nat->Nat} {L : List (List Nat)} (h : Rgs m f L) (h0 : 0 < m) : ∃ r0 rest,L=r0 :: rest:=by
 have : cls m f 0∈L:=(h.mem _).mpr ⟨0,h0,rfl⟩
 cases L with
 | nil=>cases this
 | cons r s=>exact ⟨r,s,rfl⟩
theorem perm_lt {o : List Nat} {m : Nat} (h : o.Perm (ag m)) : ∀ x∈o,x < m:=fun _ hx=>ad.mp (h.mem_iff.mp hx)
theorem y1K {o : List Nat} {m : Nat} (h : o.Perm (ag m)) : o.length=m:=by simpa using h.length_eq
theorem perm_nd {o : List Nat} {m : Nat} (h : o.Perm (ag m)) : o.Nodup:=h.nodup_iff.mpr bp
structure Gd (T : List (List Bool)) (m : Nat) (L : List (List Nat)) : Prop where
 ris : ∀ p∈L,Ris m p
 ne : ∀ p∈L,p≠[]
 tg : ∀ p∈L,togB T m p=true
 pm : L.flatten.Perm (ag m)
theorem Gd.len {T : List (List Bool)} {m : Nat} {L : List (List Nat)} (G : Gd T m L) : L.length≤m:=by
 have h : ∀ M : List (List Nat),(∀ p∈M,p≠[])->M.length≤M.flatten.length:=fun M=>by
  induction M with
  | nil=>exact fun _=>ar _
  | cons p M ih=>
   intro hne
   have:=ih fun q hq=>hne q (ak _ hq)
   have h1:=cR.mpr (hne p ah)
   rw [bx,aK,a8]
   omega
 have:=h L G.ne
 rw [G.pm.length_eq,bG] at this
 exact this
theorem cls_md {m : Nat} {T : List (List Bool)} (F : Full m T) {a : Nat} : Md T m fun x=>x∈cls m (fun a=>(rcL T m a).length) a:=fun o ho hn=>by
 have hne : (rcL T m o).length≠(rcL T m a).length:=fun e=>hn (ac.mpr ⟨ad.mpr ho,decide_eq_true e⟩)
 have fx : ∀ x,x∈cls m (fun a=>(rcL T m a).length) a->(rcL T m x).length=(rcL T m a).length:=fun x hx=>cls_f hx
 by_cases h : (rcL T m a).length < (rcL T m o).length
 ·exact .inl fun x hx hm=>z8V F ho hx (by rw [fx x hm]; exact h)
 ·refine .inr fun x hx hm=>?_
  have:=z8V F hx ho (by rw [fx x hm]; omega)
  cases e : at2 T o x with
  | false=>rfl
  | true=>exact absurd e fun w=>F.no hx ho this w
theorem y5P {m : Nat} {T : List (List Bool)} (F : Full m T) : Gd T m (rgL T m):=by
 have G:=y4V (T:=T) (m:=m)
 have ris : ∀ p∈rgL T m,Ris m p:=fun p hp=>by
  obtain ⟨a,ha,rfl⟩:=(G.mem p).mp hp
  exact ris_fil
 refine ⟨ris,fun p hp=>?_,fun p hp=>?_,G.perm⟩
 ·obtain ⟨a,ha,rfl⟩:=(G.mem p).mp hp
  exact b7 (y1a ha)
 ·rw [z9j (ris p hp).lt]
  obtain ⟨a,ha,rfl⟩:=(G.mem p).mp hp
  exact cls_md F
theorem stg_of {T : List (List Bool)} {P Q : List Nat} (h : Stg T P) (e : ∀ x,x∈P↔x∈Q) : Stg T Q:=fun S ⟨x,hx,sx⟩ ⟨y,hy,sy⟩=>by
 obtain ⟨u,hu,v,hv,q⟩:=h S ⟨x,(e x).mpr hx,sx⟩ ⟨y,(e y).mpr hy,sy⟩
 exact ⟨u,(e u).mp hu,v,(e v).mp hv,q⟩
theorem y7H {m : Nat} {T : List (List Bool)} (F : Full m T) (hs : Stg T (ag m)) (h2 : 2≤m) : Gd T m (ptL T m m):=by
 have cs:=fun {t : Nat} (ht : t < m)=>y8e F hs h2 ht
 refine ⟨fun p hp=>?_,fun p hp=>?_,fun p hp=>?_,?_⟩
 ·obtain ⟨t,ht,mt,rfl⟩:=pt_mem.mp hp
  exact gw_ris
 ·obtain ⟨t,ht,mt,rfl⟩:=pt_mem.mp hp
  exact b7 (gw_mem.mpr ⟨ht,.inl rfl⟩)
 ·obtain ⟨t,ht,mt,rfl⟩:=pt_mem.mp hp
  rw [z9j gw_ris.lt]
  have:=(cs ht).1
  intro o ho hn
  rcases this o ho (fun z=>hn (gw_mem.mpr z)) with q | q
  ·exact .inl fun x hx h=>q x hx (gw_mem.mp h)
  ·exact .inr fun x hx h=>q x hx (gw_mem.mp h)
 ·refine (bq ?_ bp).mpr fun x=>?_
  ·unfold List.Nodup
   rw [bL]
   refine ⟨fun p hp=>?_,?_⟩
   ·obtain ⟨t,ht,mt,rfl⟩:=pt_mem.mp hp
    exact gw_ris.nd
   ·unfold ptL
    rw [aY]
    refine List.Pairwise.imp_of_mem (fun {t u} ht hu htu=>?_) (List.Pairwise.filter _ (br (n:=m)))
    obtain ⟨ht1,ht2⟩:=ac.mp ht
    obtain ⟨hu1,hu2⟩:=ac.mp hu
    have hu3 : Mn T m u:=@of_decide_eq_true _ (Classical.propDecidable _) hu2
    have htm:=ad.mp ht1
    have hum:=ad.mp hu1
    intro x hx y hy e
    subst e
    have c1:=gw_mem.mp hx
    have c2:=gw_mem.mp hy
    refine hu3 t htu ?_
    have k1:=(z6s F hs h2 htm c1 t).mp ⟨htm,.inl rfl⟩
    exact (z6s F hs h2 hum c2 t).mpr k1
  ·rw [bS,ad]
   constructor
   ·rintro ⟨p,hp,hx⟩
    obtain ⟨t,ht,mt,rfl⟩:=pt_mem.mp hp
    exact gw_ris.lt x hx
   ·intro hx
    obtain ⟨s,hs',ms,c⟩:=mn_of F hs h2 hx
    exact ⟨gwL T m s,pt_mem.mpr ⟨s,by omega,ms,rfl⟩,gw_mem.mpr ((z6s F hs h2 hx c x).mp ⟨hx,.inl rfl⟩)⟩
theorem y7f {m : Nat} {T : List (List Bool)} (F : Full m T) (hm : m≤8) (h0 : 0 < m) : ∃ L,z4z [z0B T]=some (llD L)∧Gd T m L∧(1 < (rgL T m).length->L=rgL T m):=by
 by_cases hr : 1 < (rgL T m).length
 ·exact ⟨rgL T m,y2n F hm hr,y5P F,fun _=>rfl⟩
 ·have G:=y4V (T:=T) (m:=m)
  obtain ⟨r0,rest,e⟩:=G.cons h0
  have er : rest=[]:=by
   cases rest with
   | nil=>rfl
   | cons r rest=>rw [e] at hr; simp at hr
  have hs : Stg T (ag m):=by
   obtain ⟨a,ha,ea⟩:=(G.mem r0).mp (by rw [e]; exact ah)
   refine stg_of (P:=r0) (by rw [ea]; exact y6h F) fun x=>?_
   have:=G.perm.mem_iff (a:=x)
   rw [e,er] at this
   simpa using this
  refine ⟨_,y2W F hm h0 (fun _=>hs) (by omega),?_,fun z=>absurd z hr⟩
  by_cases h2 : 2≤m
  ·rw [if_pos h2]
   exact y7H F hs h2
  ·rw [if_neg h2]
   have : m=1:=by omega
   subst this
   refine ⟨fun p hp=>?_,fun p hp=>?_,fun p hp=>?_,?_⟩
   ·rw [am.mp hp]
    exact ⟨by simp,fun x hx=>by rw [am.mp hx]; omega⟩
   ·rw [am.mp hp]; simp
   ·rw [am.mp hp]; exact tog_one
   ·exact List.Perm.refl _
theorem y0f {x : Int} {m : Nat} (h : 0≤x∧x < (m : Int)) : z2U [.int x,.int (m : Int)]=some (.bl true):=by
 refine z0D rfl ?_
 have c : chO leI ltI (some (.int 0)) (some (.int x)) (some (.int (m : Int)))=some (.bl (true && true)):=y7C (by rw [ea_le,decide_eq_true h.1]) (by rw [ea_lt,decide_eq_true h.2])
 simp_all! only [z5a,c,z0e]
theorem y5R {m : Nat} (hm : m≤1000) {o : List Nat} (hp : o.Perm (ag m)) : z0U [thD o,.int (m : Int)]=some (.bl true):=by
 refine z0D rfl ?_
 have hl : decide ((o.length : Int)=(m : Int))=true:=decide_eq_true (by rw [y1K hp])
 have t0 : D.dct [] []=y0X []:=rfl
 simp_all! only [z1O,z5u,hl,t0,z2C]
 refine z0H (I:=fun s=>∃ p o3,s=[some (.sh (thD o)),some (.sh (.int (m : Int))),some (.ow (y0X p)),o3]) ?_ ?_
 ·refine z2N (fun pre s=>∃ o3,s=[some (.sh (thD o)),some (.sh (.int (m : Int))),some (.ow (y0X (pre.map fun n=>((n : Nat) : Int)))),o3]) ⟨none,rfl⟩ ?_ fun s ⟨o3,z⟩=>⟨s,rfl,_,o3,z⟩
  rintro pre x post e s ⟨o3,rfl⟩
  have hx : x∈o:=by rw [e]; simp
  have hxm:=perm_lt hp x hx
  have it:=y0f (x:=(x : Int)) (m:=m) ⟨by omega,by omega⟩
  have nd:=perm_nd hp
  rw [e,ba] at nd
  have hnp : (x : Int) ∉ pre.map fun n=>((n : Nat) : Int):=fun z=>by
   obtain ⟨y,hy,hyx⟩:=aI.mp z
   have : y=x:=by omega
   subst this
   exact nd.2.2 y hy y ah rfl
  have hpl : (pre.map fun n=>((n : Nat) : Int)).length≤1000000:=by
   have h1:=y1K hp
   rw [e,aK] at h1
   rw [aq]
   omega
  simp_all! only [nD,it,y5t hnp,y7Q hnp hpl,z0e]
  rw [a6]
  exact ⟨_,rfl⟩
 ·rintro s ⟨p,o3,rfl⟩
  simp! only [z0e]
section
variable {T : List (List Bool)} {m : Nat} {th : List Nat}
theorem stog_eq (sq : Sq m T) (hm : m≤900) (hl : th.length≤900) (h : ∀ x∈th,x < m) : z0F [z0B T,thD th]=some (.bl (togB T m th)):=by
 refine z0D rfl ?_
 simp! only [z1Y,z6Z sq hm hl h,z5u,z0e]
 congr 2
 unfold togB prt
 by_cases e : ((ag m).all fun o=>!brk T o th)=true
 ·rw [e]
  have : (ag m).filter (fun o=>brk T o th)=[]:=by
   rw [bi]
   intro o ho hb
   have:=aS.mp e o ho
   rw [hb] at this
   cases this
  rw [this]
  rfl
 ·rw [cI] at e
  rw [e]
  apply decide_eq_false
  intro z
  have z' : ((ag m).filter fun o=>brk T o th)=[]:=dl (by omega)
  rw [bi] at z'
  have : ((ag m).all fun o=>!brk T o th)=true:=aS.mpr fun o ho=>by
   have:=z' o ho
   simpa using this
  rw [this] at e
  cases e
end
theorem y4G {r : List Bool} {th : List Nat} (hl : th.length≤1000) (h : ∀ x∈th,x < r.length) : z3Y [z3A r,thD th]=some (z3A (th.map fun j=>r.getD j false)):=by
 refine z0D rfl ?_
 have hl' : (th.map nD).length≤1000000:=by rw [aq]; omega
 have hc : z1U (z2m z2Y (d2 ixD (z0d 0) (z0d 2)) [some (z3A r),some (thD th)]) (th.map nD)=some ((th.map fun j=>r.getD j false).map bD):=by
  rw [aR]
  exact z3U (fun j : Nat=>bD (r.getD j false)) fun j hj=>by simp! only [nD,y5g (h j hj),bD]
 have fl:=z3i (z1y (th.map fun j=>r.getD j false))
 simp! only [z7B,z2C,z4q hl',hc,fl,z0e]
 rfl
theorem part_eq {n : Nat} {T : List (List Bool)} (sq : Sq n T) {th : List Nat} (hl : th.length≤1000) (h : ∀ x∈th,x < n) : z9b [z0B T,thD th]=some (z0B (z0N th (at2 T))):=by
 refine z0D rfl ?_
 have hl' : (th.map nD).length≤1000000:=by rw [aq]; omega
 have hc : z1U (z2m z2Y (z0j z3Y [d2 ixD (z0d 0) (z0d 2),z0d 1]) [some (z0B T),some (thD th)]) (th.map nD)=some ((z0N th (at2 T)).map z3A):=by
  unfold z0N
  rw [aR]
  exact z3U (fun i : Nat=>z3A (th.map fun j=>at2 T i j)) fun i hi=>by
   have p:=y4G (r:=T.getD i []) (th:=th) hl (fun x hx=>by rw [sq.len (h i hi)]; exact h x hx)
   simp! only [nD,y0q (show i < T.length by rw [sq.1]; exact h i hi),p]
   rfl
 simp! only [y4S,z2C,z4q hl',hc,z0e]
 rfl
theorem y0h {L : List (List Nat)} : y2X (llD L)=some (L.map thD):=(rfl)
noncomputable def ouT (T : List (List Bool)) (L : List (List Nat)) : List (List Bool):=z0N (L.map fun p=>p.headD 0) (at2 T)
theorem st_intP {o : List Int} {k : Nat} {x : Int} (h : k < o.length) : st0V (some (y7Z o)) (some (.int (k : Int))) (some (.int x))=some (y7Z (o.set k x)):=by
 show (ixN (o.map D.int).length (k : Int)).map (fun j=>D.lst ((o.map D.int).set j (.int x)))=_
 rw [ixN_of (by simpa using h),bF,← dR]
 rfl
section
variable {T : List (List Bool)} {m : Nat} {L : List (List Nat)}
theorem Gd.lt (G : Gd T m L) {p : List Nat} (hp : p∈L) : ∀ x∈p,x < m:=(G.ris p hp).lt
theorem y2o (G : Gd T m L) (hm : m≤8) : ∃ xs : List Int,xs.length=m∧z2a [llD L,.int (m : Int)]=some (.val (y7Z xs)):=by
 suffices h : hol (z2a [llD L,.int (m : Int)]) fun d=>∃ xs : List Int,xs.length=m∧d = .val (y7Z xs) by
  obtain ⟨_,e,xs,hl,rfl⟩:=h
  exact ⟨xs,hl,e⟩
 have hl:=G.len
 have key : hol (z3p ([llD L,.int (m : Int)].map (fun d=>some (.sh d)) ++ aj 5 none)) fun o=>∃ xs : List Int,xs.length=m∧o = .rt (y7Z xs):=by
  simp! only [z3p,z2F,y3a,y0h]
  refine z0H (I:=fun s=>∃ o3,s=[some (.sh (llD L)),some (.sh (.int (m : Int))),some (.ow (thD L.flatten)),o3,none,none,none]) (z2N (enc:=thD) (xs:=L) (fun pre s=>∃ o3,s=[some (.sh (llD L)),some (.sh (.int (m : Int))),some (.ow (thD pre.flatten)),o3,none,none,none]) ⟨_,rfl⟩ ?_ fun s z=>⟨s,rfl,z⟩) ?_
  ·rintro pre p post e s ⟨o3,rfl⟩
   have hp : p∈L:=by rw [e]; simp
   have hpl:=(G.ris p hp).len
   have z0 : decide ((p.length : Int)=0)=false:=decide_eq_false fun z=>G.ne p hp (bH.mp (by omega))
   have fl : pre.flatten.length≤m:=by
    have:=G.pm.length_eq
    rw [e,eD,aK,bG] at this
    omega
   have ex : y6K (some (thD pre.flatten)) (some (thD p))=some (thD (pre.flatten ++ p)):=by
    show y6K (some (.lst (pre.flatten.map nD))) (some (.lst (p.map nD)))=_
    rw [eo_extD (z7g _) (by rw [aq,aq]; omega),← a6]
    rfl
   have ef : (pre ++ [p]).flatten=pre.flatten ++ p:=by simp
   rw [ef]
   obtain ⟨W,hW⟩ : ∃ W,W=pre.flatten ++ p:=⟨_,rfl⟩
   rw [← hW] at ex ⊢
   simp_all! only [z5u,z0,ex,z0e]
   exact ⟨_,rfl⟩
  ·rintro s ⟨o3,rfl⟩
   have te:=y5R (show m≤1000 by omega) G.pm
   have rp : repO (some (.lst [.int 0])) (some (.int (m : Int)))=some ((aj m (0 : Int)).map .int):=by rw [y5b (by omega),eJ]
   have fl : z6L (some ((aj m (0 : Int)).map D.int))=some ((aj m (0 : Int)).map D.int):=z3i (y1z _)
   have li : D.lst ((aj m (0 : Int)).map .int)=y7Z (aj m 0):=rfl
   have en : y0j (llD L)=some (z0s 0 (L.map thD)):=rfl
   simp_all! only [te,rp,fl,li,en]
   refine z0H (I:=fun s=>∃ (xs : List Int) (o2 o3 o5 o6 : Option SD),s=[some (.sh (llD L)),some (.sh (.int (m : Int))),o2,o3,some (.ow (y7Z xs)),o5,o6]∧xs.length=m) ?_ ?_
   ·refine z8A (enc:=thD) (xs:=L) (fun p s=>∃ (xs : List Int) (o2 o3 o5 o6 : Option SD),s=[some (.sh (llD L)),some (.sh (.int (m : Int))),o2,o3,some (.ow (y7Z xs)),o5,o6]∧xs.length=m) ?_ (fun s z=>⟨s,rfl,z⟩) (pre:=[]) rfl ⟨_,_,_,_,_,rfl,by simp⟩
    rintro pre p post e s ⟨xs,o2,o3,o5,o6,rfl,hx⟩
    have hp : p∈L:=by rw [← b6 L,e]; simp
    simp! only [z2C]
    refine z2N (enc:=nD) (xs:=p) (fun _ s=>∃ (xs : List Int) (o2 o6 : Option SD),s=[some (.sh (llD L)),some (.sh (.int (m : Int))),o2,some (.sh (thD p)),some (.ow (y7Z xs)),some (.sh (.int ((pre.length : Nat) : Int))),o6]∧xs.length=m) ⟨_,_,_,rfl,hx⟩ ?_ ?_
    ·rintro pr t po e2 s ⟨xs,o2,o6,rfl,hx⟩
     have ht : t < m:=G.lt hp t (by rw [e2]; simp)
     simp! only [nD,st_intP (show t < xs.length by omega),z0e]
     exact ⟨_,_,_,rfl,by rw [cM]; exact hx⟩
    ·rintro s ⟨xs,o2,o6,rfl,hx⟩
     exact ⟨_,_,_,_,_,rfl,hx⟩
   ·rintro s ⟨xs,o2,o3,o5,o6,rfl,hx⟩
    simp! only [z0e]
    exact ⟨xs,hx,rfl⟩
 obtain ⟨_,e,xs,hx,rfl⟩:=key
 exact ⟨_,y3J rfl ⟨_,e,rfl⟩,xs,hx,rfl⟩
theorem y3P (F : Full m T) (G : Gd T m L) (hm : m≤8) : z4S [z0B T,llD L]=some (.val (z0B (ouT T L))):=by
 refine y3J rfl ?_
 have hl:=G.len
 obtain ⟨xs,_,pv⟩:=y2o G hm
 have c1 : z1Q (some (L.map thD)) (z2m z2Y (z0j z0F [z0d 0,z0d 2]) [some (z0B T),some (llD L)])=some ((L.map fun _=>true).map bD):=by
  rw [aR]
  refine z2o (enc:=thD) (xs:=L) (fun _=>bD true) (by omega) fun p hp=>?_
  have hpl:=(G.ris p hp).len
  have st:=stog_eq F.sq (show m≤900 by omega) (show p.length≤900 by omega) (G.lt hp)
  rw [G.tg p hp] at st
  simp! only [st,bD]
 have c2 : z1Q (some (L.map thD)) (z2m z2Y (d2 ixD (z0d 2) (dC (.int 0))) [some (z0B T),some (llD L)])=some ((L.map fun p=>p.headD 0).map nD):=by
  rw [aR]
  refine z2o (enc:=thD) (xs:=L) (fun p=>nD (p.headD 0)) (by omega) fun p hp=>?_
  have ix : ixD (thD p) (.int 0)=some (nD (p.headD 0)):=by
   cases h : p with
   | nil=>exact absurd h (G.ne p hp)
   | cons a r=>exact y8h
  simp! only [ix]
 have al : y7J [.lst ((L.map fun _=>true).map bD)]=some (.bl true):=by
  rw [y1o]
  congr 2
  simp
 have pt:=part_eq F.sq (th:=L.map fun p=>p.headD 0) (by rw [aq]; omega) fun x hx=>by
  obtain ⟨p,hp,rfl⟩:=aI.mp hx
  cases h : p with
  | nil=>exact absurd h (G.ne p hp)
  | cons a r=>exact G.lt hp a (by rw [h]; exact ah)
 simp_all! only [z8q,z1P,F.sq.1,pv,y0h,c1,al,c2,z8N,pt,z0e]
 rfl
end
section
variable {O : List (List Bool)} {Is : List (List (List Bool))} {hs : List (Nat × Nat)}
theorem pc_mem {k t : Nat} : t∈pc hs k↔t < hs.length∧(hs.getD t (0,0)).1=k:=by
 unfold pc
 rw [ac,ad,decide_eq_true_eq]
theorem y5r (M : Mix O Is hs) : Gd (y5J O Is hs) hs.length (pcs O.length hs):=by
 have gt : ∀ t (h : t < hs.length),hs.getD t (0,0)=hs[t]:=fun t h=>by simp [be,h]
 have ris : ∀ p∈pcs O.length hs,Ris hs.length p:=fun p hp=>by
  obtain ⟨k,_,rfl⟩:=aI.mp hp
  exact ris_fil
 refine ⟨ris,fun p hp=>?_,fun p hp=>?_,?_⟩
 ·obtain ⟨k,hk,rfl⟩:=aI.mp hp
  have hk : k < Is.length:=by rw [M.len]; exact ad.mp hk
  have hz : ((k,0) : Nat × Nat)∈hs:=(M.prt.mem _).mpr ⟨hk,(M.prt.inn k hk).2⟩
  obtain ⟨t,ht,e⟩:=bU.mp hz
  exact b7 (pc_mem.mpr ⟨ht,by rw [gt t ht,e]⟩)
 ·rw [z9j (ris p hp).lt]
  obtain ⟨k,hk,rfl⟩:=aI.mp hp
  intro o ho hn
  have ho1 : (hs.getD o (0,0)).1≠k:=fun z=>hn (pc_mem.mpr ⟨ho,z⟩)
  have e : ∀ x,x < hs.length->x∈pc hs k->at2 (y5J O Is hs) o x=at2 O (hs.getD o (0,0)).1 k:=fun x hx hm=>by
   have hm:=(pc_mem.mp hm).2
   rw [gt x hx] at hm
   rw [gt o ho] at ho1 ⊢
   rw [z7w ho hx]
   unfold mb
   rw [if_neg (by rw [hm]; exact ho1),hm]
  cases h : at2 O (hs.getD o (0,0)).1 k with
  | true=>exact .inl fun x hx hm=>by rw [e x hx hm,h]
  | false=>exact .inr fun x hx hm=>by rw [e x hx hm,h]
 ·refine (bq ?_ bp).mpr fun x=>?_
  ·unfold List.Nodup
   rw [bL]
   refine ⟨fun p hp=>(ris p hp).nd,?_⟩
   unfold pcs
   rw [aY]
   refine (bp (n:=O.length)).imp fun {k j} hkj x hx y hy e=>?_
   subst e
   exact hkj ((pc_mem.mp hx).2.symm.trans (pc_mem.mp hy).2)
  ·rw [bS,ad]
   constructor
   ·rintro ⟨p,hp,hx⟩
    exact (ris p hp).lt x hx
   ·intro hx
    have h1:=(M.prt.mem hs[x]).mp (bh hx)
    refine ⟨pc hs hs[x].1,aI.mpr ⟨_,ad.mpr (by rw [← M.len]; exact h1.1),rfl⟩,pc_mem.mpr ⟨hx,by rw [gt x hx]⟩⟩
end
section
variable {T : List (List Bool)} {m : Nat} {L : List (List Nat)}
noncomputable def pk (L : List (List Nat)) (k : Nat) : List Nat:=L.getD k []
theorem z5e {k : Nat} (h : k < L.length) : pk L k∈L:=by
 unfold pk
 rw [aO,ae h]
 exact bh h
theorem Gd.has (G : Gd T m L) {x : Nat} (hx : x < m) : ∃ k,k < L.length∧x∈pk L k:=by
 obtain ⟨p,hp,h⟩:=bS.mp (G.pm.mem_iff.mpr (ad.mpr hx))
 obtain ⟨k,hk,rfl⟩:=bU.mp hp
 refine ⟨k,hk,?_⟩
 unfold pk
 rw [aO,ae hk]
 exact h
theorem Gd.only (G : Gd T m L) {k j x : Nat} (hk : k < L.length) (hj : j < L.length) (h1 : x∈pk L k) (h2 : x∈pk L j) : k=j:=by
 have nd : L.flatten.Nodup:=G.pm.nodup_iff.mpr bp
 unfold List.Nodup at nd
 rw [bL] at nd
 have pw:=bX.mp nd.2
 unfold pk at h1 h2
 rw [aO,ae hk] at h1
 rw [aO,ae hj] at h2
 rcases c8 k j with z | z | z
 ·exact absurd rfl (pw k j hk hj z x h1 x h2)
 ·exact z
 ·exact absurd rfl (pw j k hj hk z x h2 x h1)
theorem Gd.plt (G : Gd T m L) {k x : Nat} (hk : k < L.length) (h : x∈pk L k) : x < m:=G.lt (z5e hk) x h
theorem Gd.head (G : Gd T m L) {k : Nat} (hk : k < L.length) : (pk L k).headD 0∈pk L k:=by
 have:=G.ne _ (z5e hk)
 cases h : pk L k with
 | nil=>exact absurd h this
 | cons a r=>exact ah
theorem Gd.same (F : Full m T) (G : Gd T m L) {k j : Nat} (hk : k < L.length) (hj : j < L.length) (hkj : k≠j) {x x' y y' : Nat} (hx : x∈pk L k) (hx' : x'∈pk L k) (hy : y∈pk L j) (hy' : y'∈pk L j) : at2 T x y=at2 T x' y':=by
 have one : ∀ {k j : Nat},k < L.length->j < L.length->k≠j->∀ {x y y' : Nat},x∈pk L k->y∈pk L j->y'∈pk L j->at2 T x y=at2 T x y':=fun {k j} hk hj hkj {x y y'} hx hy hy'=>by
  have md:=(z9j (G.lt (z5e hj))).mp (G.tg _ (z5e hj))
  rcases md x (G.plt hk hx) (fun z=>hkj (G.only hk hj hx z)) with h | h
  ·rw [h y (G.plt hj hy) hy,h y' (G.plt hj hy') hy']
  ·rw [h y (G.plt hj hy) hy,h y' (G.plt hj hy') hy']
 have ne : ∀ {a b : Nat},a∈pk L k->b∈pk L j->a≠b:=fun ha hb z=>hkj (G.only hk hj ha (z ▸ hb))
 rw [one hk hj hkj hx hy hy',F.two x (G.plt hk hx) y' (G.plt hj hy') (ne hx hy'),F.two x' (G.plt hk hx') y' (G.plt hj hy') (ne hx' hy'),one hj hk (Ne.symm hkj) hy' hx hx']
theorem y3h {k : Nat} (hk : k < L.length) : (L.map fun p=>p.headD 0).getD k 0=(pk L k).headD 0:=by
 unfold pk
 simp [be,ae hk]
theorem z3s (F : Full m T) (G : Gd T m L) {k j : Nat} (hk : k < L.length) (hj : j < L.length) (hkj : k≠j) {x y : Nat} (hx : x∈pk L k) (hy : y∈pk L j) : at2 (ouT T L) k j=at2 T x y:=by
 unfold ouT
 have e : at2 (z0N (L.map fun p=>p.headD 0) (at2 T)) k j=at2 T ((L.map fun p=>p.headD 0).getD k 0) ((L.map fun p=>p.headD 0).getD j 0):=by
  unfold at2 z0N
  simp [be,ae hk,ae hj]
 rw [e,y3h hk,y3h hj]
 exact G.same F hk hj hkj (G.head hk) hx (G.head hj) hy
theorem y0I (F : Full m T) (G : Gd T m L) : Full L.length (ouT T L):=by
 have sq : Sq L.length (ouT T L):=by
  have:=y4p (th:=L.map fun p=>p.headD 0) (f:=at2 T)
  rwa [aq] at this
 refine ⟨sq,fun k hk=>?_,fun k hk j hj hkj=>?_⟩
 ·unfold ouT
  have e : at2 (z0N (L.map fun p=>p.headD 0) (at2 T)) k k=at2 T ((L.map fun p=>p.headD 0).getD k 0) ((L.map fun p=>p.headD 0).getD k 0):=by
   unfold at2 z0N
   simp [be,ae hk]
  rw [e,y3h hk]
  exact F.own _ (G.plt hk (G.head hk))
 ·rw [z3s F G hk hj hkj (G.head hk) (G.head hj),z3s F G hj hk (Ne.symm hkj) (G.head hj) (G.head hk)]
  exact F.two _ (G.plt hk (G.head hk)) _ (G.plt hj (G.head hj)) fun z=>hkj (G.only hk hj (G.head hk) (z ▸ G.head hj))
end
section
variable {T : List (List Bool)} {m : Nat}
theorem y8J {P : List Nat} (nd : P.Nodup) {i j : Nat} (hi : i < P.length) (hj : j < P.length) (h : P[i]=P[j]) : i=j:=by
 rcases c8 i j with z | z | z
 ·exact absurd h (bX.mp nd i j hi hj z)
 ·exact z
 ·exact absurd h.symm (bX.mp nd j i hj hi z)
theorem z4X {P : List Nat} {i j : Nat} (hi : i < P.length) (hj : j < P.length) : at2 (z0N P (at2 T)) i j=at2 T (P.getD i 0) (P.getD j 0):=by
 unfold at2 z0N
 simp [be,ae hi,ae hj]
theorem y3k (F : Full m T) {P : List Nat} (nd : P.Nodup) (lt : ∀ x∈P,x < m) : Full P.length (z0N P (at2 T)):=by
 have gi : ∀ i,i < P.length->P.getD i 0 < m:=fun i hi=>by
  rw [aO,ae hi]
  exact lt _ (bh hi)
 refine ⟨y4p,fun i hi=>?_,fun i hi j hj hij=>?_⟩
 ·rw [z4X hi hi]; exact F.own _ (gi i hi)
 ·rw [z4X hi hj,z4X hj hi]
  refine F.two _ (gi i hi) _ (gi j hj) fun z=>hij ?_
  rw [aO,aO,ae hi,ae hj] at z
  exact y8J nd hi hj z
end
theorem y6u {m : Nat} {T : List (List Bool)} (sq : Sq m T) {P : List Nat} (hl : P.length≤1000) (lt : ∀ x∈P,x < m) : z2c [z0B T,thD P]=some (z0B (z0N P (at2 T))):=by
 refine z0D rfl ?_
 have c2 : z1Q (some (P.map nD)) (z2m z2Y (z0v (z0X (z4u (z0d 1)) z2Y (d2 ixD (d2 ixD (z0d 0) (z0d 2)) (z0d 3)))) [some (z0B T),some (thD P)])=some ((z0N P (at2 T)).map z3A):=by
  rw [z2o (fun i=>z3A (P.map fun j=>at2 T i j)) hl fun i hi=>?_]
  ·unfold z0N
   rw [aR]
   rfl
  ·have c3 : z1Q (some (P.map nD)) (z2m z2Y (d2 ixD (d2 ixD (z0d 0) (z0d 2)) (z0d 3)) [some (z0B T),some (thD P),some (nD i)])=some ((P.map fun j=>at2 T i j).map bD):=by
    rw [z2o (fun j=>bD (at2 T i j)) hl fun j hj=>?_]
    ·rw [aR]
     rfl
    ·simp! only [nD,ix2 sq (lt i hi) (lt j hj),bD]
   simp! only [z2C,c3,z3i (z1y _)]
   rfl
 simp! only [z4w,z2C,c2,z0e]
 rfl
theorem y8B {L : List (List Nat)} {k : Nat} (h : k < L.length) : ixD (llD L) (.int (k : Int))=some (thD (pk L k)):=by
 have e : pk L k=L[k]:=by
  unfold pk
  simp [be,h]
 rw [e]
 exact z8Q (by rw [aN,ae h]; rfl)
theorem z4x {m : Nat} {T : List (List Bool)} (sq : Sq m T) {a : Nat} (ha : a < m) {th : List Nat} (hl : th.length≤1000) (h : ∀ x∈th,x < m) : z0L [z0B T,.int (a : Int),thD th]=some (.bl (th.all fun j=>at2 T a j)):=by
 refine z0D rfl ?_
 simp! only [z4n,z2C]
 rw [z2o (fun j=>bD (at2 T a j)) hl fun j hj=>by simp! only [nD,ix2 sq ha (h j hj),bD]]
 have e : (th.map fun j=>bD (at2 T a j))=(th.map fun j=>at2 T a j).map bD:=by rw [aR]; rfl
 have e2 : ((th.map fun j=>at2 T a j).all fun b=>b)=th.all fun j=>at2 T a j:=by rw [dW]; rfl
 simp! only [e,y1o,e2,z0e]
noncomputable def y3t (T : List (List Bool)) (m a b : Nat) : Bool:=at2 T a b && ((ag m).filter fun j=>at2 T b j).all fun j=>at2 T a j
theorem y3f {m : Nat} {T : List (List Bool)} (sq : Sq m T) (hm : m≤1000) {a b : Nat} (ha : a < m) (hb : b < m) : z4D [z0B T,.int (a : Int),.int (b : Int)]=some (.bl (y3t T m a b)):=by
 refine z0D rfl ?_
 have hl : ((ag m).filter fun j=>at2 T b j).length≤1000:=by
  have:=bc (fun j=>at2 T b j) (ag m)
  rw [bG] at this
  omega
 have b1:=z6h sq hm hb
 have b2:=z4x sq ha (th:=(ag m).filter fun j=>at2 T b j) hl fun x hx=>ad.mp (ac.mp hx).1
 simp! only [z8a,ix2 sq ha hb,b1,b2,z0e]
 rfl
noncomputable def z7D (T : List (List Bool)) (m a : Nat) : Bool:=!(ag m).any fun b=>y3t T m b a
noncomputable def uncL (T : List (List Bool)) (m : Nat) : List Nat:=(ag m).filter fun a=>z7D T m a
theorem z9z {m : Nat} {T : List (List Bool)} (sq : Sq m T) (hm : m≤1000) {a : Nat} (ha : a < m) : z2k [z0B T,.int (a : Int)]=some (.bl ((ag m).any fun b=>y3t T m b a)):=by
 refine z0D rfl ?_
 have hr : rng1 (some (.int (m : Int)))=some (z4A 0 m):=by rw [y0c (by omega)]; rfl
 simp! only [z3N,z1P,sq.1,hr,z3l]
 rw [z2o (fun b=>bD (y3t T m b a)) (by simp; omega) fun j hj=>by simp! only [nD,y3f sq hm (ad.mp hj) ha,bD]]
 have e : ((ag m).map fun b=>bD (y3t T m b a))=((ag m).map fun b=>y3t T m b a).map bD:=by rw [aR]; rfl
 have e2 : (((ag m).map fun b=>y3t T m b a).any fun b=>b)=(ag m).any fun b=>y3t T m b a:=by rw [ca]; rfl
 simp! only [e,y8n,e2,z0e]
theorem z3I {m : Nat} {T : List (List Bool)} (sq : Sq m T) (hm : m≤1000) : z1j [z0B T]=some (thD (uncL T m)):=by
 refine z0D rfl ?_
 have hr : rng1 (some (.int (m : Int)))=some (z4A 0 m):=by rw [y0c (by omega)]; rfl
 simp! only [z4o,z1P,sq.1,hr,z3l]
 rw [z8W (fun a=>z7D T m a) nD (by simp; omega) (fun j hj=>by simp! only [nD,z9z sq hm (ad.mp hj)]; rfl) fun j hj _=>by simp! only []]
 have f1:=z3i (z7g (uncL T m))
 unfold uncL at f1
 simp! only [f1,z0e]
 rfl
noncomputable def chB (T : List (List Bool)) : List Nat->Bool
 | []=>true
 | a :: r=>(r.all fun j=>at2 T a j) && chB T r
noncomputable def z4C (T : List (List Bool)) (th : List Nat) : Bool:=!th.isEmpty && chB T th
theorem y4R {T : List (List Bool)} : ∀ {th : List Nat} {k : Nat} {pre : List Nat},pre.length=k->((th.zipIdx k).all fun z=>((pre ++ th).drop (z.2 + 1)).all fun j=>at2 T z.1 j)=chB T th
 | [],_,_,_=>rfl
 | a :: r,k,pre,h=>by
  have ih:=y4R (T:=T) (th:=r) (k:=k + 1) (pre:=pre ++ [a]) (by simp [h])
  have e : pre ++ [a] ++ r=pre ++ a :: r:=by simp
  rw [e] at ih
  rw [List.zipIdx_cons,dJ,ih]
  show ((((pre ++ a :: r).drop (k + 1)).all fun j=>at2 T a j) && _)=_
  have e2 : (pre ++ a :: r).drop (k + 1)=r:=by rw [← h]; simp
  rw [e2]
  rfl
theorem y2M {m : Nat} {T : List (List Bool)} (sq : Sq m T) {th : List Nat} (hl : th.length≤1000) (h : ∀ x∈th,x < m) : z2P [z0B T,thD th]=some (.bl (z4C T th)):=by
 refine z0D rfl ?_
 by_cases h0 : th=[]
 ·subst h0
  have d0 : decide ((([] : List Nat).length : Int)=0)=true:=rfl
  simp! only [z3S,z5u,d0,z0e]
  rfl
 ·have d0 : decide ((th.length : Int)=0)=false:=decide_eq_false fun e=>h0 (bH.mp (by omega))
  simp! only [z3S,z5u,d0,y4u]
  rw [cx2_all (fun k a=>bD ((th.drop (k + 1)).all fun j=>at2 T a j)) hl fun i hi=>by
   have c:=z4x sq (h th[i] (bh hi)) (th:=th.drop (i + 1)) (by simp; omega) fun x hx=>h x (List.mem_of_mem_drop hx)
   have tl : ∀ o : List Nat,D.lst (o.map nD)=thD o:=fun _=>rfl
   have c : z0L [z0B T,nD th[i],thD (th.drop (i + 1))]=_:=c
   simp! only [y6i,tl,c]
   rfl]
  have e : (th.zipIdx.map fun z=>bD ((th.drop (z.2 + 1)).all fun j=>at2 T z.1 j))=(th.zipIdx.map fun z=>(th.drop (z.2 + 1)).all fun j=>at2 T z.1 j).map bD:=by rw [aR]; rfl
  have e2 : ((th.zipIdx.map fun z=>(th.drop (z.2 + 1)).all fun j=>at2 T z.1 j).all fun b=>b)=z4C T th:=by
   unfold z4C
   rw [dW,← y4R (T:=T) (th:=th) (k:=0) (pre:=[]) rfl]
   have : (!th.isEmpty)=true:=by simp [h0]
   rw [this]
   rfl
  simp! only [e,y1o,e2,z0e]
noncomputable def btL (T : List (List Bool)) (m : Nat) (th : List Nat) : List Nat:=(ag m).filter fun a=>th.all fun j=>at2 T a j
theorem z6U {m : Nat} {T : List (List Bool)} (sq : Sq m T) (hm : m≤1000) {th : List Nat} (hl : th.length≤1000) (h : ∀ x∈th,x < m) : z2g [z0B T,thD th]=some (thD (btL T m th)):=by
 refine z0D rfl ?_
 simp! only [z6r,z1P,sq.1,z2q (show m≤1000000 by omega),z3l]
 rw [z8W (fun a=>th.all fun j=>at2 T a j) nD (by simp; omega) (fun a ha=>by
  have c:=z4x sq (ad.mp ha) hl h
  simp! only [nD,c]) fun x hx _=>by simp! only []]
 simp! only [z1I,z0e]
 rfl
theorem y4r {m : Nat} {T : List (List Bool)} (sq : Sq m T) (hm : m≤1000) {th : List Nat} (hl : th.length≤1000) (h : ∀ x∈th,x < m) : z3R [z0B T,thD th]=some (.bl (z4C T th && decide (((btL T m th).length : Int)=0))):=by
 refine z0D rfl ?_
 simp! only [z8f,y2M sq hl h,z6U sq hm hl h,z5u,z0e]
noncomputable def z5g (T : List (List Bool)) : Nat->List Nat->List Nat->List (List Nat)
 | 0,_,_=>[]
 | _ + 1,c,[]=>[c]
 | n + 1,c,x :: f=>((x :: f).map fun y=>z5g T n (c ++ [y]) ((x :: f).filter fun z=>at2 T y z)).flatten
noncomputable def fac : Nat->Nat
 | 0=>1
 | n + 1=>(n + 1) * fac n
theorem y6s (n : Nat) : fac n≤fac (n + 1):=by
 show fac n≤(n + 1) * fac n
 exact Nat.le_mul_of_pos_left _ (by omega)
theorem z5L {a b : Nat} (h : a≤b) : fac a≤fac b:=by
 induction h with
 | refl=>exact ar _
 | step _ ih=>exact aQ ih (y6s _)
theorem y0B {α : Type} {B : Nat} : ∀ {L : List (List α)},(∀ l∈L,l.length≤B)->L.flatten.length≤L.length * B
 | [],_=>bA _
 | l :: L,h=>by
  have ih:=y0B (L:=L) fun x hx=>h x (ak _ hx)
  have h1:=h l ah
  rw [bx,aK,a8,Nat.succ_mul]
  omega
theorem z8y {T : List (List Bool)} {f : List Nat} {y : Nat} (hy : y∈f) (own : at2 T y y=false) : (f.filter fun z=>at2 T y z).length < f.length:=by
 rw [List.length_filter_lt_length_iff_exists]
 exact ⟨y,hy,by rw [own]; exact ao⟩
theorem z5N {T : List (List Bool)} : ∀ {n : Nat} {c f : List Nat},(∀ x∈f,at2 T x x=false)->(z5g T n c f).length≤fac f.length
 | 0,_,f,_=>bA _
 | _ + 1,c,[],_=>ar _
 | n + 1,c,x :: f,own=>by
  have : ∀ l∈(x :: f).map fun y=>z5g T n (c ++ [y]) ((x :: f).filter fun z=>at2 T y z),l.length≤fac f.length:=fun l hl=>by
   obtain ⟨y,hy,rfl⟩:=aI.mp hl
   refine aQ (z5N fun z hz=>own z (ac.mp hz).1) (z5L ?_)
   have:=z8y hy (own y hy)
   rw [a8] at this
   omega
  have:=y0B this
  rw [aq] at this
  exact this
theorem y1c {m : Nat} {T : List (List Bool)} (sq : Sq m T) (own : ∀ i < m,at2 T i i=false) (hm : m≤8) : ∀ {n : Nat} {c f : List Nat},f.length < n->f.length≤8->c.length + f.length≤100->(∀ x∈f,x < m)->z1f n [z0B T,thD c,thD f]=some (.lst ((z5g T n c f).map thD))
 | 0,c,f,h,_,_,_=>absurd h (by omega)
 | n + 1,c,[],h,h8,hc,hf=>by
  refine y1R rfl ?_
  have tr : z6m (thD [])=some false:=rfl
  simp_all! only [z2e,tr,z0e]
  rfl
 | n + 1,c,x :: f,h,h8,hc,hf=>by
  refine y1R rfl ?_
  obtain ⟨F,hF⟩ : ∃ F,F=x :: f:=⟨_,rfl⟩
  have tr : z6m (thD F)=some true:=by rw [hF]; rfl
  have e0 : z5g T (n + 1) c (x :: f)=(F.map fun y=>z5g T n (c ++ [y]) (F.filter fun z=>at2 T y z)).flatten:=by rw [hF]; rfl
  rw [e0]
  rw [← hF] at h h8 hc hf ⊢
  have nl : D.lst [] = .lst (([] : List (List Nat)).map thD):=rfl
  have ownF : ∀ x∈F,at2 T x x=false:=fun x hx=>own x (hf x hx)
  simp_all! only [z2e,tr,z2F,z2C]
  rw [nl]
  refine z0H (I:=fun s=>∃ o1 o4,s=[some (.sh (z0B T)),o1,some (.sh (thD F)),some (.ow (.lst ((F.map fun y=>z5g T n (c ++ [y]) (F.filter fun z=>at2 T y z)).flatten.map thD))),o4]) ?_ ?_
  ·refine z2N (enc:=nD) (fun pre s=>∃ o4,s=[some (.sh (z0B T)),some (.ow (thD c)),some (.sh (thD F)),some (.ow (.lst ((pre.map fun y=>z5g T n (c ++ [y]) (F.filter fun z=>at2 T y z)).flatten.map thD))),o4]) ⟨_,rfl⟩ ?_ fun s ⟨o4,e⟩=>⟨s,rfl,_,_,e⟩
   rintro pre y post e s ⟨o4,rfl⟩
   have hy : y∈F:=by rw [e]; simp
   have t1 : D.lst [.int (y : Int)]=thD [y]:=rfl
   have ct:=y5d (a:=c) (b:=[y]) (by simp; omega)
   have cx : z1Q (some (F.map nD)) (z2m (z1t (d2 ixD (d2 ixD (z0d 0) (z0d 4)) (z0d 5))) (z0d 5) [some (z0B T),some (thD c),some (thD F),some (.lst ((pre.map fun y=>z5g T n (c ++ [y]) (F.filter fun z=>at2 T y z)).flatten.map thD)),some (.int (y : Int))])=some ((F.filter fun z=>at2 T y z).map nD):=
    z8W (fun z=>at2 T y z) nD (by omega) (fun z hz=>by
     simp! only [nD,ix2 sq (hf y hy) (hf z hz)]) fun z _ _=>by simp! only []
   have fl:=z8y hy (ownF y hy)
   have ih:=y1c sq own hm (n:=n) (c:=c ++ [y]) (f:=F.filter fun z=>at2 T y z) (by omega) (by omega) (by simp; omega) fun z hz=>hf z (ac.mp hz).1
   have l1 : (pre.map fun y=>z5g T n (c ++ [y]) (F.filter fun z=>at2 T y z)).flatten.length≤40320 * 8:=by
    refine aQ (y0B (B:=40320) fun l hl=>?_) ?_
    ·obtain ⟨z,hz,rfl⟩:=aI.mp hl
     refine aQ (z5N fun q hq=>ownF q (ac.mp hq).1) ?_
     exact aQ (z5L (show _≤8 from aQ (bc _ _) h8)) (by decide)
    ·rw [aq]
     have : pre.length≤8:=by
      have:=congrArg List.length e
      simp at this
      omega
     exact aQ (Nat.mul_le_mul_right _ this) (by decide)
   have l2 : (z5g T n (c ++ [y]) (F.filter fun z=>at2 T y z)).length≤40320:=by
    refine aQ (z5N fun q hq=>ownF q (ac.mp hq).1) ?_
    exact aQ (z5L (show _≤8 from aQ (bc _ _) h8)) (by decide)
   obtain ⟨Y,hY⟩ : ∃ Y,Y=z5g T n (c ++ [y]) (F.filter fun z=>at2 T y z):=⟨_,rfl⟩
   obtain ⟨Z,hZ⟩ : ∃ Z,Z=(pre.map fun y=>z5g T n (c ++ [y]) (F.filter fun z=>at2 T y z)).flatten:=⟨_,rfl⟩
   obtain ⟨cy,hcy⟩ : ∃ cy,cy=c ++ [y]:=⟨_,rfl⟩
   rw [← hcy] at ih ct
   rw [← hcy] at hY
   rw [← hcy] at l2
   rw [← hY] at ih l2
   rw [← hZ] at l1 cx ⊢
   have ex : extV (some (.lst (Z.map thD))) (some (.lst (Y.map thD)))=some (.lst ((Z ++ Y).map thD)):=by
    rw [eo_ext (by simp; omega),a6]
   have tl : ∀ W : List Nat,D.lst (W.map nD)=thD W:=fun _=>rfl
   simp! only [nD,t1,ct,z1I,tl,z2C,cx,ih,ex,z0e]
   have key : ((pre ++ [y]).map fun y=>z5g T n (c ++ [y]) (F.filter fun z=>at2 T y z)).flatten=Z ++ Y:=by
    rw [a6,eD,← hZ]
    congr 1
    show z5g T n (c ++ [y]) (F.filter fun z=>at2 T y z) ++ []=Y
    rw [aL,hY,hcy]
   rw [key]
   exact ⟨_,rfl⟩
  ·rintro s ⟨o1,o4,rfl⟩
   simp! only [z0e]
structure Ant (m : Nat) (T : List (List Bool)) : Prop where
 sq : Sq m T
 own : ∀ i < m,at2 T i i=false
 ant : ∀ i < m,∀ j < m,at2 T i j=true->at2 T j i=false
theorem z5J {T : List (List Bool)} {a : Nat} {r : List Nat} : chB T (a :: r)=(r.all (fun j=>at2 T a j) && chB T r):=rfl
theorem z7A {T : List (List Bool)} : ∀ {a b : List Nat},chB T (a ++ b)=(chB T a && chB T b && a.all fun x=>b.all fun y=>at2 T x y)
 | [],b=>by simp [chB]
 | x :: a,b=>by
  have ih:=z7A (T:=T) (a:=a) (b:=b)
  rw [List.cons_append,z5J,z5J,List.all_append,ih,dJ]
  cases a.all (fun j=>at2 T x j) <;> cases b.all (fun j=>at2 T x j) <;> cases chB T a <;> cases chB T b <;> simp
theorem chB_iff {T : List (List Bool)} {th : List Nat} : chB T th=true↔th.Pairwise fun x y=>at2 T x y=true:=by
 induction th with
 | nil=>simp [chB]
 | cons a r ih=>rw [z5J,aJ,ih,aU,aS]
theorem z7H {T : List (List Bool)} : ∀ {n : Nat} {c f e : List Nat},e∈z5g T n c f->∃ q,e=c ++ q∧∀ x∈q,x∈f
 | 0,_,_,_,h=>nomatch h
 | _ + 1,c,[],e,h=>by
  have : e=c:=by simpa [z5g] using h
  exact ⟨[],by simp [this],fun _ z=>nomatch z⟩
 | n + 1,c,x :: f,e,h=>by
  obtain ⟨l,hl,he⟩:=bS.mp (show e∈((x :: f).map fun y=>z5g T n (c ++ [y]) ((x :: f).filter fun z=>at2 T y z)).flatten from h)
  obtain ⟨y,hy,rfl⟩:=aI.mp hl
  obtain ⟨q,rfl,hq⟩:=z7H he
  refine ⟨y :: q,by simp,fun z hz=>?_⟩
  rcases ai.mp hz with w | w
  ·rw [w]; exact hy
  ·exact (ac.mp (hq z w)).1
theorem y1e {T : List (List Bool)} : ∀ {n : Nat} {c f r : List Nat},f.length < n->(∀ x∈f,at2 T x x=false)->chB T (c ++ r)=true->(∀ x∈r,x∈f)->(∀ y∈f,∀ x∈c,at2 T x y=true)->∃ e∈z5g T n c f,(∀ x∈c ++ r,x∈e)∧chB T e=true
 | 0,_,_,_,h,_,_,_,_=>absurd h (by omega)
 | n + 1,c,[],r,_,_,hc,hr,_=>by
  have : r=[]:=by
   cases r with
   | nil=>rfl
   | cons x r=>exact absurd (hr x ah) (by simp)
  subst this
  rw [aL] at hc ⊢
  exact ⟨c,by simp [z5g],fun x hx=>hx,hc⟩
 | n + 1,c,x :: f,r,hn,own,hc,hr,hb=>by
  have go : ∀ (y : Nat) (r' : List Nat),y∈x :: f->chB T ((c ++ [y]) ++ r')=true->(∀ z∈r',z∈x :: f)->∃ e∈z5g T (n + 1) c (x :: f),(∀ z∈(c ++ [y]) ++ r',z∈e)∧chB T e=true:=fun y r' hy hc' hr'=>by
   have fl:=z8y hy (own y hy)
   have hyr : ∀ z∈r',at2 T y z=true:=fun z hz=>by
    rw [aZ,z7A] at hc'
    have:=(aV.mp (aV.mp hc').1).2
    rw [List.singleton_append,z5J] at this
    exact aS.mp (aV.mp this).1 z hz
   obtain ⟨e,he,h1,h2⟩:=y1e (n:=n) (c:=c ++ [y]) (f:=(x :: f).filter fun z=>at2 T y z) (r:=r') (by omega) (fun z hz=>own z (ac.mp hz).1) hc' (fun z hz=>ac.mpr ⟨hr' z hz,hyr z hz⟩) (fun z hz w hw=>by
    rcases aF.mp hw with q | q
    ·exact hb z (ac.mp hz).1 w q
    ·rw [am.mp q]
     have:=(ac.mp hz).2
     simpa using this)
   exact ⟨e,bS.mpr ⟨_,aI.mpr ⟨y,hy,rfl⟩,he⟩,h1,h2⟩
  cases r with
  | nil=>
   rw [aL] at hc
   obtain ⟨e,he,h1,h2⟩:=go x [] ah (by
    rw [aL,z7A,hc]
    rw [aJ,aS]
    refine ⟨by simp [chB],fun z hz=>?_⟩
    simp [hb x ah z hz]) (fun z hz=>nomatch hz)
   exact ⟨e,he,fun z hz=>h1 z (by simp at hz ⊢; exact .inl hz),h2⟩
  | cons y r=>
   obtain ⟨e,he,h1,h2⟩:=go y r (hr y ah) (by rw [aZ]; exact hc) fun z hz=>hr z (ak _ hz)
   exact ⟨e,he,fun z hz=>h1 z (by rw [aZ]; exact hz),h2⟩
noncomputable def insC (T : List (List Bool)) (o : Nat) (c : List Nat) : List Nat:=(c.filter fun x=>at2 T x o) ++ [o] ++ c.filter fun x=>at2 T o x
noncomputable def z9I (T : List (List Bool)) (a o : Nat) (found : List (List Nat)) : List (List Nat):=if at2 T a o=true then found ++ (found.map (insC T o)).filter (z4C T) else found
noncomputable def hdL (T : List (List Bool)) (a : Nat) : Nat->List (List Nat)
 | 0=>[[a]]
 | k + 1=>z9I T a k (hdL T a k)
theorem hd_ok {m : Nat} {T : List (List Bool)} {a : Nat} (ha : a < m) (own : at2 T a a=false) : ∀ {k : Nat},k≤m->∀ c∈hdL T a k,chB T c=true∧(∃ r,c=a :: r)∧∀ x∈c,x < m
 | 0,_,c,hc=>by
  have : c=[a]:=by simpa [hdL] using hc
  subst this
  exact ⟨by simp [chB],⟨[],rfl⟩,fun x hx=>by rw [am.mp hx]; exact ha⟩
 | k + 1,hk,c,hc=>by
  have ih:=hd_ok (k:=k) ha own (by omega)
  have hc : c∈z9I T a k (hdL T a k):=hc
  unfold z9I at hc
  split at hc
  ·rename_i hak
   rcases aF.mp hc with z | z
   ·exact ih c z
   ·obtain ⟨hz,hch⟩:=ac.mp z
    obtain ⟨c0,h0,rfl⟩:=aI.mp hz
    obtain ⟨_,⟨r,rfl⟩,hlt⟩:=ih c0 h0
    refine ⟨(aV.mp hch).2,?_,fun x hx=>?_⟩
    ·unfold insC
     rw [bB,if_pos hak]
     exact ⟨_,rfl⟩
    ·unfold insC at hx
     rcases aF.mp hx with w | w
     ·rcases aF.mp w with w | w
      ·exact hlt x (ac.mp w).1
      ·rw [am.mp w]; omega
     ·exact hlt x (ac.mp w).1
  ·exact ih c hc
theorem y8f {m : Nat} {T : List (List Bool)} (A : Ant m T) {a : Nat} {r : List Nat} (hc : chB T (a :: r)=true) (hlt : ∀ x∈a :: r,x < m) : ∀ {k : Nat},k≤m->(a :: r.filter fun x=>decide (x < k))∈hdL T a k
 | 0,_=>by
  have : (r.filter fun x=>decide (x < 0))=[]:=by rw [bi]; simp
  rw [this]
  simp [hdL]
 | k + 1,hk=>by
  have ih:=y8f A hc hlt (k:=k) (by omega)
  have pw:=chB_iff.mp hc
  have nd : (a :: r).Nodup:=pw.imp_of_mem fun {x y} hx hy z=>fun e=>by
   subst e
   rw [A.own x (hlt x hx)] at z
   cases z
  show _∈z9I T a k (hdL T a k)
  unfold z9I
  by_cases hkr : k∈r
  ·have hak : at2 T a k=true:=(aU.mp pw).1 k hkr
   rw [if_pos hak]
   refine aW _ (ac.mpr ⟨aI.mpr ⟨_,ih,?_⟩,?_⟩)
   ·obtain ⟨p,q,rfl⟩:=List.append_of_mem hkr
    have pw2:=(aU.mp pw).2
    obtain ⟨_,pq,pc⟩:=eu.mp pw2
    have hp : ∀ x∈p,at2 T x k=true:=fun x hx=>pc x hx k ah
    have hq : ∀ x∈q,at2 T k x=true:=fun x hx=>(aU.mp pq).1 x hx
    have km : k < m:=by omega
    have hp' : ∀ x∈p,at2 T k x=false:=fun x hx=>A.ant x (hlt x (by simp [hx])) k km (hp x hx)
    have hq' : ∀ x∈q,at2 T x k=false:=fun x hx=>A.ant k km x (hlt x (by simp [hx])) (hq x hx)
    have hka : at2 T k a=false:=A.ant a (hlt a ah) k km hak
    have nd2:=(aC.mp nd).2
    have nk : k ∉ p∧k ∉ q:=by
     obtain ⟨_,n2,n3⟩:=ba.mp nd2
     exact ⟨fun z=>n3 k z k ah rfl,(aC.mp n2).1⟩
    have f1 : ∀ l : List Nat,k ∉ l->(l.filter fun x=>decide (x < k + 1))=l.filter fun x=>decide (x < k):=fun l hl=>cD fun x hx=>by
     have : x≠k:=fun z=>hl (z ▸ hx)
     rw [decide_eq_decide]
     omega
    have e1 : ((p ++ k :: q).filter fun x=>decide (x < k))=(p.filter fun x=>decide (x < k)) ++ q.filter fun x=>decide (x < k):=by
     rw [b8,bB,if_neg (by simp)]
    have e2 : ((p ++ k :: q).filter fun x=>decide (x < k + 1))=(p.filter fun x=>decide (x < k)) ++ k :: q.filter fun x=>decide (x < k):=by
     rw [b8,bB,if_pos (by simp),f1 p nk.1,f1 q nk.2]
    rw [e1,e2]
    unfold insC
    have g1 : ((a :: ((p.filter fun x=>decide (x < k)) ++ q.filter fun x=>decide (x < k))).filter fun x=>at2 T x k)=a :: p.filter fun x=>decide (x < k):=by
     rw [bB,if_pos hak,b8]
     have h1 : ((p.filter fun x=>decide (x < k)).filter fun x=>at2 T x k)=p.filter fun x=>decide (x < k):=bY.mpr fun x hx=>hp x (ac.mp hx).1
     have h2 : ((q.filter fun x=>decide (x < k)).filter fun x=>at2 T x k)=[]:=bi.mpr fun x hx=>by rw [hq' x (ac.mp hx).1]; exact ao
     rw [h1,h2,aL]
    have g2 : ((a :: ((p.filter fun x=>decide (x < k)) ++ q.filter fun x=>decide (x < k))).filter fun x=>at2 T k x)=q.filter fun x=>decide (x < k):=by
     rw [bB,if_neg (by rw [hka]; exact ao),b8]
     have h1 : ((p.filter fun x=>decide (x < k)).filter fun x=>at2 T k x)=[]:=bi.mpr fun x hx=>by rw [hp' x (ac.mp hx).1]; exact ao
     have h2 : ((q.filter fun x=>decide (x < k)).filter fun x=>at2 T k x)=q.filter fun x=>decide (x < k):=bY.mpr fun x hx=>hq x (ac.mp hx).1
     rw [h1,h2,b6]
    rw [g1,g2]
    simp
   ·refine aV.mpr ⟨rfl,?_⟩
    rw [chB_iff]
    exact pw.sublist (List.Sublist.cons₂ a bR)
  ·have e : (r.filter fun x=>decide (x < k + 1))=r.filter fun x=>decide (x < k):=cD fun x hx=>by
    have : x≠k:=fun z=>hkr (z ▸ hx)
    rw [decide_eq_decide]
    omega
   rw [e]
   split
   ·exact bO _ ih
   ·exact ih
theorem y5D {m : Nat} {T : List (List Bool)} (A : Ant m T) {a : Nat} {r : List Nat} (hc : chB T (a :: r)=true) (hlt : ∀ x∈a :: r,x < m) : (a :: r)∈hdL T a m:=by
 have:=y8f A hc hlt (k:=m) (ar _)
 have e : (r.filter fun x=>decide (x < m))=r:=bY.mpr fun x hx=>decide_eq_true (hlt x (ak _ hx))
 rwa [e] at this
noncomputable def crP (T : List (List Bool)) (m : Nat) (c : List Nat) : Bool:=decide (((btL T m c).length : Int)=0)
noncomputable def crB (T : List (List Bool)) (m a : Nat) : Bool:=(hdL T a m).any (crP T m)
noncomputable def btN (T : List (List Bool)) (m a : Nat) : List Nat:=(ag m).filter fun j=>at2 T a j
theorem bt_nil {T : List (List Bool)} {m : Nat} {c : List Nat} : crP T m c=true↔∀ x < m,∃ y∈c,at2 T x y=false:=by
 unfold crP btL
 rw [decide_eq_true_iff]
 constructor
 ·intro h x hx
  have h : ((ag m).filter fun a=>c.all fun j=>at2 T a j)=[]:=bH.mp (by omega)
  have:=bi.mp h x (ad.mpr hx)
  rw [aS] at this
  by_cases hq : ∃ y∈c,at2 T x y=false
  ·exact hq
  ·exact absurd (fun y hy=>by
    cases e : at2 T x y with
    | true=>rfl
    | false=>exact absurd ⟨y,hy,e⟩ hq) this
 ·intro h
  have : ((ag m).filter fun a=>c.all fun j=>at2 T a j)=[]:=bi.mpr fun x hx=>by
   obtain ⟨y,hy,e⟩:=h x (ad.mp hx)
   intro z
   rw [aS.mp z y hy] at e
   cases e
  rw [this]
  rfl
theorem cr_end {m : Nat} {T : List (List Bool)} (A : Ant m T) {a n : Nat} (ha : a < m) (hn : m < n) : ((z5g T n [a] (btN T m a)).any fun e=>z4C T e && crP T m e)=crB T m a:=by
 have hlt : ∀ x∈btN T m a,x < m:=fun x hx=>ad.mp (ac.mp hx).1
 rw [cr,bK]
 unfold crB
 rw [bK]
 constructor
 ·rintro ⟨e,he,h⟩
  obtain ⟨h1,h2⟩:=aV.mp h
  obtain ⟨q,rfl,hq⟩:=z7H he
  refine ⟨[a] ++ q,y5D A (aV.mp h1).2 fun x hx=>?_,h2⟩
  rcases ai.mp hx with z | z
  ·rw [z]; exact ha
  ·exact hlt x (hq x z)
 ·rintro ⟨c,hc,h⟩
  obtain ⟨h1,⟨r,rfl⟩,h3⟩:=hd_ok ha (A.own a ha) (ar _) c hc
  have hbt : (btN T m a).length≤m:=aQ (bc _ _) (by simp)
  have h1' : (∀ x∈r,at2 T a x=true):=aS.mp (aV.mp (show (r.all (fun j=>at2 T a j) && chB T r)=true from h1)).1
  obtain ⟨e,he,g1,g2⟩:=y1e (T:=T) (n:=n) (c:=[a]) (f:=btN T m a) (r:=r) (by omega) (fun x hx=>A.own x (hlt x hx)) h1 (fun x hx=>ac.mpr ⟨ad.mpr (h3 x (ak _ hx)),h1' x hx⟩) (fun y hy x hx=>by
   rw [am.mp hx]
   have:=(ac.mp hy).2
   simpa using this)
  refine ⟨e,he,aV.mpr ⟨aV.mpr ⟨?_,g2⟩,?_⟩⟩
  ·have:=g1 a (by simp)
   cases e with
   | nil=>cases this
   | cons _ _=>rfl
  ·rw [bt_nil] at h ⊢
   intro x hx
   obtain ⟨y,hy,e'⟩:=h x hx
   exact ⟨y,g1 y hy,e'⟩
theorem cr_some {m : Nat} {T : List (List Bool)} (A : Ant m T) : ∀ (k : Nat) {c : List Nat},m - c.length≤k->c≠[]->chB T c=true->(∀ x∈c,x < m)->∃ a < m,crB T m a=true:=by
 have nodup : ∀ {c : List Nat},chB T c=true->(∀ x∈c,x < m)->c.Nodup:=fun hc hlt=>(chB_iff.mp hc).imp_of_mem fun {x y} hx hy z=>fun e=>by
  subst e
  rw [A.own x (hlt x hx)] at z
  cases z
 have len : ∀ {c : List Nat},chB T c=true->(∀ x∈c,x < m)->c.length≤m:=fun hc hlt=>by simpa using List.Nodup.length_le_of_subset (nodup hc hlt) fun x hx=>ad.mpr (hlt x hx)
 have more : ∀ {c : List Nat},c≠[]->chB T c=true->(∀ x∈c,x < m)->(∃ a < m,crB T m a=true)∨∃ x,chB T (x :: c)=true∧∀ y∈x :: c,y < m:=fun {c} hne hc hlt=>by
  by_cases hb : crP T m c=true
  ·cases c with
   | nil=>exact absurd rfl hne
   | cons a r=>exact .inl ⟨a,hlt a ah,bK.mpr ⟨a :: r,y5D A hc hlt,hb⟩⟩
  ·have : ∃ x < m,∀ y∈c,at2 T x y=true:=by
    by_cases hq : ∃ x < m,∀ y∈c,at2 T x y=true
    ·exact hq
    ·refine absurd (bt_nil.mpr fun x hx=>?_) hb
     by_cases hz : ∃ y∈c,at2 T x y=false
     ·exact hz
     ·exact absurd ⟨x,hx,fun y hy=>by
       cases e : at2 T x y with
       | true=>rfl
       | false=>exact absurd ⟨y,hy,e⟩ hz⟩ hq
   obtain ⟨x,hx,hxy⟩:=this
   refine .inr ⟨x,aV.mpr ⟨aS.mpr hxy,hc⟩,fun y hy=>?_⟩
   rcases ai.mp hy with z | z
   ·rw [z]; exact hx
   ·exact hlt y z
 intro k
 induction k with
 | zero=>
  intro c hk hne hc hlt
  rcases more hne hc hlt with z | ⟨x,h1,h2⟩
  ·exact z
  ·have:=len h1 h2
   rw [a8] at this
   omega
 | succ k ih=>
  intro c hk hne hc hlt
  rcases more hne hc hlt with z | ⟨x,h1,h2⟩
  ·exact z
  ·exact ih (c:=x :: c) (by rw [a8]; omega) (by simp) h1 h2
theorem y1D {T : List (List Bool)} : ∀ {n : Nat} {c f e : List Nat},e∈z5g T n c f->chB T c=true->(∀ y∈f,∀ x∈c,at2 T x y=true)->chB T e=true
 | 0,_,_,_,h,_,_=>nomatch h
 | _ + 1,c,[],e,h,hc,_=>by
  have : e=c:=by simpa [z5g] using h
  rw [this]; exact hc
 | n + 1,c,x :: f,e,h,hc,hb=>by
  obtain ⟨l,hl,he⟩:=bS.mp (show e∈((x :: f).map fun y=>z5g T n (c ++ [y]) ((x :: f).filter fun z=>at2 T y z)).flatten from h)
  obtain ⟨y,hy,rfl⟩:=aI.mp hl
  refine y1D he ?_ fun z hz w hw=>?_
  ·rw [z7A,hc]
   rw [aJ,aS]
   refine ⟨by simp [chB],fun z hz=>?_⟩
   simp [hb y hy z hz]
  ·rcases aF.mp hw with q | q
   ·exact hb z (ac.mp hz).1 w q
   ·rw [am.mp q]
    have:=(ac.mp hz).2
    simpa using this
noncomputable def y2Q (T : List (List Bool)) (m a : Nat) : List (List Nat):=z5g T 12 [a] (btN T m a)
structure Ech (m : Nat) (T : List (List Bool)) (a : Nat) (e : List Nat) : Prop where
 ch : z4C T e=true
 lt : ∀ x∈e,x < m
 len : e.length≤m
 hd : ∃ q,e=a :: q
theorem y3U {m : Nat} {T : List (List Bool)} (A : Ant m T) {a : Nat} (ha : a < m) {e : List Nat} (he : e∈y2Q T m a) : Ech m T a e:=by
 obtain ⟨q,rfl,hq⟩:=z7H he
 have hlt : ∀ x∈[a] ++ q,x < m:=fun x hx=>by
  rcases ai.mp hx with z | z
  ·rw [z]; exact ha
  ·exact ad.mp (ac.mp (hq x z)).1
 have hc : chB T ([a] ++ q)=true:=y1D he (by simp [chB]) fun y hy x hx=>by
  rw [am.mp hx]
  have:=(ac.mp hy).2
  simpa using this
 have nd : ([a] ++ q).Nodup:=(chB_iff.mp hc).imp_of_mem fun {x y} hx hy z=>fun e=>by
  subst e
  rw [A.own x (hlt x hx)] at z
  cases z
 exact ⟨aV.mpr ⟨rfl,hc⟩,hlt,by simpa using List.Nodup.length_le_of_subset nd fun x hx=>ad.mpr (hlt x hx),q,rfl⟩
theorem y3x {T : List (List Bool)} {m a : Nat} : (btN T m a).length≤m:=aQ (bc _ _) (by simp)
theorem y6E {m : Nat} {T : List (List Bool)} (A : Ant m T) (hm : m≤8) {a : Nat} : (y2Q T m a).length≤40320:=by
 refine aQ (z5N fun x hx=>A.own x (ad.mp (ac.mp hx).1)) ?_
 have:=y3x (T:=T) (m:=m) (a:=a)
 exact aQ (z5L (show _≤8 by omega)) (by decide)
theorem y3u {m : Nat} {T : List (List Bool)} (A : Ant m T) (hm : m≤8) {a : Nat} (ha : a < m) : z1w [z0B T,thD [a],thD (btN T m a)]=some (.lst ((y2Q T m a).map thD)):=by
 have:=y3x (T:=T) (m:=m) (a:=a)
 exact y1c A.sq A.own hm (n:=12) (by omega) (by omega) (by simp; omega) fun x hx=>ad.mp (ac.mp hx).1
noncomputable def bpD (T : List (List Bool)) (m : Nat) (c : List Nat) : D:=.tup [thD c,nD ((btL T m c).headD 0)]
noncomputable def papD (T : List (List Bool)) (m a : Nat) : D:=match (y2Q T m a).find? (crP T m) with
 | some c=>.tup [.str "chain",thD c]
 | none=>.tup [.str "beaten",.lst ((y2Q T m a).map (bpD T m))]
theorem st_cr {m : Nat} {T : List (List Bool)} (A : Ant m T) (hm : m≤8) {a : Nat} {c : List Nat} (h : Ech m T a c) : z3R [z0B T,thD c]=some (.bl (crP T m c)):=by
 have h1:=h.len
 have:=y4r A.sq (by omega) (th:=c) (by omega) h.lt
 rw [h.ch,Bool.true_and] at this
 exact this
theorem z9q {α : Type} {p : α->Bool} : ∀ {l pre post : List α} {x : α},l=pre ++ x :: post->(∀ y∈pre,p y=false)->p x=true->l.find? p=some x
 | _,[],post,x,e,_,hx=>by rw [e,b6,bN,hx]
 | _,y :: pre,post,x,e,hp,hx=>by
  rw [e,List.cons_append,bN,hp y ah]
  exact z9q rfl (fun z hz=>hp z (ak _ hz)) hx
theorem y7r {m : Nat} {T : List (List Bool)} (A : Ant m T) (hm : m≤8) {a : Nat} (ha : a < m) : z1o [z0B T,.int (a : Int)]=some (papD T m a):=by
 refine z0D rfl ?_
 have e1:=y3u A hm ha
 have e2:=z6h A.sq (by omega) ha
 have e2 : z0M [z0B T,.int (a : Int)]=some (thD (btN T m a)):=e2
 have t1 : D.lst [.int (a : Int)]=thD [a]:=rfl
 have f1 : z6L (some [D.int (a : Int)])=some [D.int (a : Int)]:=rfl
 have l1:=y6E A hm (a:=a)
 have ok : ∀ c∈y2Q T m a,Ech m T a c:=fun c hc=>y3U A ha hc
 unfold papD
 obtain ⟨E,hE⟩ : ∃ E,E=y2Q T m a:=⟨_,rfl⟩
 rw [← hE] at e1 l1 ok ⊢
 simp! only [z3w,f1,t1,e2,e1]
 refine y2g (I:=fun s=>∃ o3,s=[some (.sh (z0B T)),some (.sh (.int (a : Int))),some (.sh (.lst (E.map thD))),o3]∧∀ y∈E,crP T m y=false) ?_ ?_
 ·refine z2N (enc:=thD) (fun pre s=>∃ o3,s=[some (.sh (z0B T)),some (.sh (.int (a : Int))),some (.sh (.lst (E.map thD))),o3]∧∀ y∈pre,crP T m y=false) ⟨_,rfl,fun y hy=>by cases hy⟩ ?_ ?_
  ·rintro pre c post e s ⟨o3,rfl,hp⟩
   have hc : c∈E:=by rw [e]; simp
   have st:=st_cr A hm (ok c hc)
   cases h : crP T m c with
   | true=>
    rw [h] at st
    rw [z9q e hp h]
    simp! only [st,z0e]
    exact .inr trivial
   | false=>
    rw [h] at st
    simp! only [st,z0e]
    refine ⟨_,rfl,fun y hy=>?_⟩
    rcases aF.mp hy with z | z
    ·exact hp y z
    ·rw [am.mp z]; exact h
  ·rintro s ⟨o3,rfl,hp⟩
   exact .inl ⟨_,rfl,_,rfl,hp⟩
 ·rintro s ⟨o3,rfl,hp⟩
  have hfn : E.find? (crP T m)=none:=eL.mpr fun y hy=>by rw [hp y hy]; exact ao
  rw [hfn]
  have cx : z1Q (some (E.map thD)) (z2m z2Y (mkT (z0q [z0d 4,d2 ixD (z0j z2g [z0d 0,z0d 4]) (dC (.int 0))])) [some (z0B T),some (.int (a : Int)),some (.lst (E.map thD)),shO o3])=some (E.map (bpD T m)):=by
   rw [z4q (by rw [aq]; omega)]
   refine z3U (bpD T m) fun c hc=>?_
   have h1:=(ok c hc).len
   have bt:=z6U A.sq (by omega) (th:=c) (by omega) (ok c hc).lt
   have hne : btL T m c≠[]:=fun z=>by
    have:=hp c hc
    unfold crP at this
    rw [z] at this
    simp at this
   have i0 : ixD (thD (btL T m c)) (.int 0)=some (nD ((btL T m c).headD 0)):=by
    cases hb : btL T m c with
    | nil=>exact absurd hb hne
    | cons x w=>exact z8z (j:=0) rfl
   simp! only [bt,i0]
   rfl
  simp! only [cx,z0e]
theorem y8x {a b : Str} {c : Bool} (h1 : okP (.str a)=true) (h2 : okP (.str b)=true) (h : PyData.eqv (.str a) (.str b)=c) : eqD (.str a) (.str b)=some (.bl c):=by
 unfold eqD
 rw [h1,h2]
 show some (D.bl (PyData.eqv (.str a) (.str b)))=_
 rw [h]
theorem k_cc : eqD (.str "chain") (.str "chain")=some (.bl true):=y8x (by decide +kernel) (by decide +kernel) (by decide +kernel)
theorem k_bc : eqD (.str "beaten") (.str "chain")=some (.bl false):=y8x (by decide +kernel) (by decide +kernel) (by decide +kernel)
theorem y6U {m : Nat} {T : List (List Bool)} (A : Ant m T) (hm : m≤8) {a : Nat} (ha : a < m) : o2 eqD (ixD (papD T m a) (.int 0)) (some (.str "chain"))=some (.bl (crB T m a)):=by
 have h:=cr_end A ha (show m < 12 by omega)
 have e : ((z5g T 12 [a] (btN T m a)).any fun e=>z4C T e && crP T m e)=(y2Q T m a).any (crP T m):=by
  show ((y2Q T m a).any fun e=>z4C T e && crP T m e)=_
  rw [cr,bK,bK]
  constructor
  ·rintro ⟨c,hc,h⟩
   exact ⟨c,hc,(aV.mp h).2⟩
  ·rintro ⟨c,hc,h⟩
   exact ⟨c,hc,aV.mpr ⟨(y3U A ha hc).ch,h⟩⟩
 rw [e] at h
 rw [← h]
 unfold papD
 cases hf : (y2Q T m a).find? (crP T m) with
 | some c=>
  have : (y2Q T m a).any (crP T m)=true:=bK.mpr ⟨c,List.mem_of_find?_eq_some hf,List.find?_some hf⟩
  rw [this]
  exact k_cc
 | none=>
  have : (y2Q T m a).any (crP T m)=false:=by
   rw [cE]
   exact eL.mp hf
  rw [this]
  exact k_bc
theorem z6w {m : Nat} {T : List (List Bool)} (A : Ant m T) (hm : m≤8) : z2E [z0B T]=some (thD ((ag m).filter (crB T m))):=by
 refine z0D rfl ?_
 have cx : z1Q (some (z4A 0 m)) (z2m (z1v (d2 eqD (d2 ixD (z0j z1o [z0d 0,z0d 1]) (dC (.int 0))) (dC (.str "chain")))) (z0d 1) [some (z0B T)])=some (((ag m).filter (crB T m)).map nD):=by
  rw [z3l]
  refine z8W (crB T m) nD (by simp; omega) (fun a ha=>?_) fun a _ _=>by simp! only []
  have ha:=ad.mp ha
  have pe:=y7r A hm ha
  have pk:=y6U A hm ha
  simp! only [nD,pe,pk]
 simp! only [z7C,z1P,A.sq.1,z2q (show m≤1000000 by omega),cx,z1I,z0e]
 rfl
theorem z8h {m : Nat} {T : List (List Bool)} (A : Ant m T) {a : Nat} (ha : a < m) : crB T m a=true↔∃ r,chB T (a :: r)=true∧(∀ x∈a :: r,x < m)∧crP T m (a :: r)=true:=by
 unfold crB
 rw [bK]
 constructor
 ·rintro ⟨c,hc,h⟩
  obtain ⟨q1,⟨r,rfl⟩,q3⟩:=hd_ok ha (A.own a ha) (ar m) c hc
  exact ⟨r,q1,q3,h⟩
 ·rintro ⟨r,q1,q3,h⟩
  exact ⟨a :: r,y5D A q1 q3,h⟩
theorem covq_iff {m : Nat} {T : List (List Bool)} {a b : Nat} : y3t T m a b=true↔at2 T a b=true∧∀ j,j < m->at2 T b j=true->at2 T a j=true:=by
 unfold y3t
 rw [aJ,aS]
 exact ⟨fun ⟨h1,h2⟩=>⟨h1,fun j hj h=>h2 j (ac.mpr ⟨ad.mpr hj,h⟩)⟩,fun ⟨h1,h2⟩=>⟨h1,fun j hj=>h2 j (ad.mp (ac.mp hj).1) (ac.mp hj).2⟩⟩
theorem z7z {m : Nat} {T : List (List Bool)} {a : Nat} : z7D T m a=false↔∃ b,b < m∧y3t T m b a=true:=by
 unfold z7D
 rw [Bool.not_eq_false',bK]
 exact ⟨fun ⟨b,h1,h2⟩=>⟨b,ad.mp h1,h2⟩,fun ⟨b,h1,h2⟩=>⟨b,ad.mpr h1,h2⟩⟩
section
variable {T : List (List Bool)} {m : Nat} {L : List (List Nat)}
theorem z4W {k i : Nat} (hi : i < (pk L k).length) : (pk L k).getD i 0∈pk L k:=by
 rw [aO,ae hi]
 exact bh hi
theorem y3T {k x : Nat} (h : x∈pk L k) : ∃ i,i < (pk L k).length∧(pk L k).getD i 0=x:=by
 obtain ⟨i,hi,rfl⟩:=bU.mp h
 exact ⟨i,hi,by simp [be,hi]⟩
theorem y6j (F : Full m T) (G : Gd T m L) {k i : Nat} (hk : k < L.length) (hi : i < (pk L k).length) : z7D T m ((pk L k).getD i 0)=(z7D (ouT T L) L.length k && z7D (z0N (pk L k) (at2 T)) (pk L k).length i):=by
 have FO:=y0I F G
 have hx:=z4W hi
 have hxm:=G.plt hk hx
 suffices h : z7D T m ((pk L k).getD i 0)=false↔(z7D (ouT T L) L.length k=false∨z7D (z0N (pk L k) (at2 T)) (pk L k).length i=false) by
  cases h1 : z7D T m ((pk L k).getD i 0) <;> cases h2 : z7D (ouT T L) L.length k <;> cases h3 : z7D (z0N (pk L k) (at2 T)) (pk L k).length i <;> rw [h1,h2,h3] at h <;> simp at h <;> rfl
 rw [z7z,z7z,z7z]
 constructor
 ·rintro ⟨y,hy,hc⟩
  obtain ⟨c1,c2⟩:=covq_iff.mp hc
  obtain ⟨j,hj,hyj⟩:=G.has hy
  by_cases e : j=k
  ·subst e
   right
   obtain ⟨b,hb,rfl⟩:=y3T hyj
   refine ⟨b,hb,covq_iff.mpr ⟨by rw [z4X hb hi]; exact c1,fun l hl h=>?_⟩⟩
   rw [z4X hi hl] at h
   rw [z4X hb hl]
   exact c2 _ (G.plt hj (z4W hl)) h
  ·left
   refine ⟨j,hj,covq_iff.mpr ⟨by rw [z3s F G hj hk e hyj hx]; exact c1,fun l hl h=>?_⟩⟩
   have hz:=G.head hl
   have hlk : k≠l:=fun z=>by rw [← z,FO.own k hk] at h; cases h
   rw [z3s F G hk hl hlk hx hz] at h
   have h2:=c2 _ (G.plt hl hz) h
   have hjl : j≠l:=fun z=>by
    subst z
    have c3 : at2 (ouT T L) j k=true:=by rw [z3s F G hj hk e hyj hx]; exact c1
    have h3 : at2 (ouT T L) k j=true:=by rw [z3s F G hk hj hlk hx hz]; exact h
    exact FO.no hj hk c3 h3
   rw [z3s F G hj hl hjl hyj hz]
   exact h2
 ·rintro (⟨j,hj,hc⟩ | ⟨b,hb,hc⟩)
  ·obtain ⟨c1,c2⟩:=covq_iff.mp hc
   have hjk : j≠k:=fun z=>by rw [z,FO.own k hk] at c1; cases c1
   have hy:=G.head hj
   refine ⟨_,G.plt hj hy,covq_iff.mpr ⟨by rw [← z3s F G hj hk hjk hy hx]; exact c1,fun z hz h=>?_⟩⟩
   obtain ⟨l,hl,hzl⟩:=G.has hz
   by_cases e : l=k
   ·subst e
    rw [← z3s F G hj hl hjk hy hzl]
    exact c1
   ·rw [← z3s F G hk hl (Ne.symm e) hx hzl] at h
    have h2:=c2 l hl h
    have hjl : j≠l:=fun w=>by rw [w,FO.own l hl] at h2; cases h2
    rw [← z3s F G hj hl hjl hy hzl]
    exact h2
  ·obtain ⟨c1,c2⟩:=covq_iff.mp hc
   have hy:=z4W hb
   refine ⟨_,G.plt hk hy,covq_iff.mpr ⟨by rw [← z4X hb hi]; exact c1,fun z hz h=>?_⟩⟩
   obtain ⟨l,hl,hzl⟩:=G.has hz
   by_cases e : l=k
   ·subst e
    obtain ⟨d,hd,rfl⟩:=y3T hzl
    rw [← z4X hi hd] at h
    rw [← z4X hb hd]
    exact c2 d hd h
   ·rw [← z3s F G hk hl (Ne.symm e) hx hzl] at h
    rw [← z3s F G hk hl (Ne.symm e) hy hzl]
    exact h
theorem rep_of {f : Nat->Nat} {a : Nat} : ∀ (r : List Nat),∃ K,(a :: K).Sublist (a :: r)∧(a :: K).Pairwise (fun u v=>f u≠f v)∧∀ u∈a :: r,∃ v∈a :: K,f v=f u:=fun r=>by
 have h : ∀ r : List Nat,∃ K : List Nat,K.Sublist r∧K.Pairwise (fun u v=>f u≠f v)∧∀ u∈r,∃ v∈K,f v=f u:=by
  intro r
  induction r with
  | nil=>exact ⟨[],.slnil,.nil,fun u hu=>nomatch hu⟩
  | cons b r ih=>
   obtain ⟨K,k1,k2,k3⟩:=ih
   refine ⟨b :: K.filter (fun u=>decide (f b≠f u)),(bR.trans k1).cons₂ b,aU.mpr ⟨fun v hv=>of_decide_eq_true (ac.mp hv).2,k2.sublist bR⟩,fun u hu=>?_⟩
   by_cases e : f b=f u
   ·exact ⟨b,ah,e⟩
   ·rcases ai.mp hu with rfl | hu
    ·exact absurd rfl e
    ·obtain ⟨v,hv,ev⟩:=k3 u hu
     exact ⟨v,ak _ (ac.mpr ⟨hv,decide_eq_true (by rw [ev]; exact e)⟩),ev⟩
 obtain ⟨K,k1,k2,k3⟩:=h r
 refine ⟨K.filter (fun u=>decide (f a≠f u)),(bR.trans k1).cons₂ a,aU.mpr ⟨fun v hv=>of_decide_eq_true (ac.mp hv).2,k2.sublist bR⟩,fun u hu=>?_⟩
 by_cases e : f a=f u
 ·exact ⟨a,ah,e⟩
 ·rcases ai.mp hu with rfl | hu
  ·exact absurd rfl e
  ·obtain ⟨v,hv,ev⟩:=k3 u hu
   exact ⟨v,ak _ (ac.mpr ⟨hv,decide_eq_true (by rw [ev]; exact e)⟩),ev⟩
noncomputable def kP (L : List (List Nat)) (t : Nat) : Nat:=L.findIdx fun p=>p.contains t
theorem y0E (G : Gd T m L) {t : Nat} (ht : t < m) : kP L t < L.length∧t∈pk L (kP L t):=by
 obtain ⟨k,hk,h⟩:=G.has ht
 have ex : ∃ p∈L,p.contains t=true:=⟨_,z5e hk,aM.mpr h⟩
 have hlt : L.findIdx (fun p=>p.contains t) < L.length:=List.findIdx_lt_length_of_exists ex
 refine ⟨hlt,?_⟩
 have:=List.findIdx_getElem (xs:=L) (p:=fun p=>p.contains t) (w:=hlt)
 unfold pk kP
 rw [aO,ae hlt]
 exact aM.mp this
theorem z5r (F : Full m T) : Ant m T:=⟨F.sq,F.own,fun x hx y hy h=>by
 by_cases e : x=y
 ·subst e; rw [F.own x hx] at h; cases h
 ·have:=F.two x hx y hy e
  rw [h] at this
  cases z : at2 T y x <;> rw [z] at this <;> first | rfl | cases this⟩
noncomputable def y5I (P : List Nat) (u : Nat) : Nat:=P.idxOf u
theorem idxP_at {P : List Nat} (nd : P.Nodup) {k : Nat} (hk : k < P.length) : y5I P (P.getD k 0)=k:=by
 unfold y5I
 rw [aO,ae hk]
 exact List.Nodup.idxOf_getElem nd k hk
theorem z7X {P : List Nat} {u : Nat} (h : u∈P) : y5I P u < P.length∧P.getD (y5I P u) 0=u:=by
 have hl : P.idxOf u < P.length:=List.idxOf_lt_length_of_mem h
 refine ⟨hl,?_⟩
 unfold y5I
 rw [aO,ae hl]
 exact List.getElem_idxOf hl
theorem cr_fold (F : Full m T) (G : Gd T m L) {k i : Nat} (hk : k < L.length) (hi : i < (pk L k).length) : crB T m ((pk L k).getD i 0)=(crB (ouT T L) L.length k && crB (z0N (pk L k) (at2 T)) (pk L k).length i):=by
 have FO:=y0I F G
 have FP:=fun {l : Nat} (hl : l < L.length)=>y3k F (G.ris _ (z5e hl)).nd (G.ris _ (z5e hl)).lt
 have hx:=z4W hi
 have hxm:=G.plt hk hx
 rw [cr,aJ,z8h (z5r F) hxm,z8h (z5r FO) hk,z8h (z5r (FP hk)) hi]
 constructor
 ·rintro ⟨r,q1,q3,h⟩
  rw [chB_iff] at q1
  rw [bt_nil] at h
  have kx : kP L ((pk L k).getD i 0)=k:=G.only (y0E G hxm).1 hk (y0E G hxm).2 hx
  obtain ⟨K,k1,k2,k3⟩:=rep_of (f:=kP L) (a:=(pk L k).getD i 0) r
  refine ⟨⟨K.map (kP L),?_,?_,?_⟩,?_⟩
  ·rw [chB_iff]
   have e : k :: K.map (kP L)=((pk L k).getD i 0 :: K).map (kP L):=by rw [aT,kx]
   rw [e,aY]
   refine List.Pairwise.imp_of_mem (fun {u v} hu hv huv=>?_) (k2.and (q1.sublist k1))
   have hu:=y0E G (q3 u (k1.subset hu))
   have hv:=y0E G (q3 v (k1.subset hv))
   rw [z3s F G hu.1 hv.1 huv.1 hu.2 hv.2]
   exact huv.2
  ·intro j hj
   rcases ai.mp hj with z | z
   ·rw [z]; exact hk
   ·obtain ⟨u,hu,rfl⟩:=aI.mp z
    exact (y0E G (q3 u (k1.subset (ak _ hu)))).1
  ·rw [bt_nil]
   intro j hj
   have hy:=G.head hj
   obtain ⟨u,hu,hf⟩:=h _ (G.plt hj hy)
   obtain ⟨v,hv,ev⟩:=k3 u hu
   have hul:=y0E G (q3 u hu)
   refine ⟨kP L u,?_,?_⟩
   ·rw [← ev]
    have e : k :: K.map (kP L)=((pk L k).getD i 0 :: K).map (kP L):=by rw [aT,kx]
    rw [e]
    exact aI.mpr ⟨v,hv,rfl⟩
   ·by_cases e : j=kP L u
    ·rw [← e]; exact FO.own j hj
    ·rw [z3s F G hj hul.1 e hy hul.2]
     exact hf
  ·have ik : ∀ u∈pk L k,∃ d,d < (pk L k).length∧(pk L k).getD d 0=u:=fun u hu=>y3T hu
   have nd:=(G.ris _ (z5e hk)).nd
   have di : y5I (pk L k) ((pk L k).getD i 0)=i:=idxP_at nd hi
   refine ⟨(r.filter fun u=>decide (u∈pk L k)).map (y5I (pk L k)),?_,?_,?_⟩
   ·rw [chB_iff]
    have e : i :: (r.filter fun u=>decide (u∈pk L k)).map (y5I (pk L k))=(((pk L k).getD i 0 :: r).filter fun u=>decide (u∈pk L k)).map (y5I (pk L k)):=by rw [bB,if_pos (decide_eq_true hx),aT,di]
    rw [e,aY]
    refine (q1.sublist bR).imp_of_mem fun {u v} hu hv huv=>?_
    have hu:=z7X (of_decide_eq_true (ac.mp hu).2)
    have hv:=z7X (of_decide_eq_true (ac.mp hv).2)
    rw [z4X hu.1 hv.1,hu.2,hv.2]
    exact huv
   ·intro j hj
    rcases ai.mp hj with z | z
    ·rw [z]; exact hi
    ·obtain ⟨u,hu,rfl⟩:=aI.mp z
     exact (z7X (of_decide_eq_true (ac.mp hu).2)).1
   ·rw [bt_nil]
    intro j hj
    have hy:=z4W hj
    obtain ⟨u,hu,hf⟩:=h _ (G.plt hk hy)
    have huP : u∈pk L k:=by
     by_cases e : u∈pk L k
     ·exact e
     ·have hul:=y0E G (q3 u hu)
      have hne : k≠kP L u:=fun z=>e (by rw [z]; exact hul.2)
      rcases ai.mp hu with z | z
      ·rw [z] at e; exact absurd hx e
      ·have h1:=(aU.mp q1).1 u z
       rw [← z3s F G hk hul.1 hne hx hul.2] at h1
       rw [← z3s F G hk hul.1 hne hy hul.2,h1] at hf
       cases hf
    have hd:=z7X huP
    refine ⟨y5I (pk L k) u,?_,by rw [z4X hj hd.1,hd.2]; exact hf⟩
    rcases ai.mp hu with z | z
    ·rw [z,di]; exact ah
    ·exact ak _ (aI.mpr ⟨u,ac.mpr ⟨z,decide_eq_true huP⟩,rfl⟩)
 ·rintro ⟨⟨R,o1,o3,o4⟩,⟨Q,i1,i3,i4⟩⟩
  have hB : ∀ l,∃ B : List Nat,l < L.length->B≠[]∧chB (z0N (pk L l) (at2 T)) B=true∧(∀ d∈B,d < (pk L l).length)∧crP (z0N (pk L l) (at2 T)) (pk L l).length B=true:=fun l=>by
   by_cases hl : l < L.length
   ·have hp : 0 < (pk L l).length:=cR.mpr (G.ne _ (z5e hl))
    obtain ⟨a,ha,hc⟩:=cr_some (z5r (FP hl)) _ (ar _) (c:=[0]) (by simp) rfl fun x hx=>by rw [am.mp hx]; exact hp
    obtain ⟨r,b1,b3,b4⟩:=(z8h (z5r (FP hl)) ha).mp hc
    exact ⟨a :: r,fun _=>⟨by simp,b1,b3,b4⟩⟩
   ·exact ⟨[],fun z=>absurd z hl⟩
  obtain ⟨B,HB⟩ : ∃ B : Nat->List Nat,∀ l,l < L.length->B l≠[]∧chB (z0N (pk L l) (at2 T)) (B l)=true∧(∀ d∈B l,d < (pk L l).length)∧crP (z0N (pk L l) (at2 T)) (pk L l).length (B l)=true:=⟨fun l=>(hB l).choose,fun l=>(hB l).choose_spec⟩
  obtain ⟨C,hC⟩ : ∃ C : Nat->List Nat,C=fun l=>if l=k then i :: Q else B l:=⟨_,rfl⟩
  have HC : ∀ l,l < L.length->C l≠[]∧chB (z0N (pk L l) (at2 T)) (C l)=true∧(∀ d∈C l,d < (pk L l).length)∧crP (z0N (pk L l) (at2 T)) (pk L l).length (C l)=true:=fun l hl=>by
   rw [hC]
   dsimp only
   by_cases e : l=k
   ·subst e
    rw [if_pos rfl]
    exact ⟨by simp,i1,i3,i4⟩
   ·rw [if_neg e]
    exact HB l hl
  have nR : (k :: R).Pairwise fun u v=>u≠v:=(chB_iff.mp o1).imp_of_mem fun {u v} hu hv h z=>by
   rw [z,FO.own v (o3 v hv)] at h
   cases h
  have e0 : (k :: R).flatMap (fun l=>(C l).map fun d=>(pk L l).getD d 0)=(pk L k).getD i 0 :: (Q.map (fun d=>(pk L k).getD d 0) ++ R.flatMap fun l=>(C l).map fun d=>(pk L l).getD d 0):=by
   rw [List.flatMap_cons]
   have : C k=i :: Q:=by rw [hC]; exact if_pos rfl
   rw [this]
   rfl
  refine ⟨Q.map (fun d=>(pk L k).getD d 0) ++ R.flatMap (fun l=>(C l).map fun d=>(pk L l).getD d 0),?_,?_,?_⟩
  ·rw [← e0,chB_iff,List.flatMap_def,bL]
   refine ⟨fun p hp=>?_,?_⟩
   ·obtain ⟨l,hl,rfl⟩:=aI.mp hp
    have hl:=o3 l hl
    obtain ⟨_,c2,c3,_⟩:=HC l hl
    rw [aY]
    exact (chB_iff.mp c2).imp_of_mem fun {u v} hu hv h=>by rwa [z4X (c3 u hu) (c3 v hv)] at h
   ·rw [aY]
    refine List.Pairwise.imp_of_mem (fun {u v} hu hv huv=>?_) ((chB_iff.mp o1).and nR)
    intro x hx y hy
    obtain ⟨d,hd,rfl⟩:=aI.mp hx
    obtain ⟨d',hd',rfl⟩:=aI.mp hy
    have hu':=o3 u hu
    have hv':=o3 v hv
    rw [← z3s F G hu' hv' huv.2 (z4W ((HC u hu').2.2.1 d hd)) (z4W ((HC v hv').2.2.1 d' hd'))]
    exact huv.1
  ·rw [← e0]
   intro x hx
   obtain ⟨l,hl,hx⟩:=cg.mp hx
   obtain ⟨d,hd,rfl⟩:=aI.mp hx
   exact G.plt (o3 l hl) (z4W ((HC l (o3 l hl)).2.2.1 d hd))
  ·rw [← e0,bt_nil]
   rw [bt_nil] at o4
   intro y hy
   obtain ⟨j,hj,hyj⟩:=G.has hy
   obtain ⟨l,hl,hf⟩:=o4 j hj
   have hl':=o3 l hl
   obtain ⟨c1,c2,c3,c4⟩:=HC l hl'
   by_cases e : j=l
   ·subst e
    obtain ⟨b,hb,rfl⟩:=y3T hyj
    rw [bt_nil] at c4
    obtain ⟨d,hd,hq⟩:=c4 b hb
    rw [z4X hb (c3 d hd)] at hq
    exact ⟨_,cg.mpr ⟨j,hl,aI.mpr ⟨d,hd,rfl⟩⟩,hq⟩
   ·obtain ⟨d,hd⟩:=dI _ c1
    refine ⟨_,cg.mpr ⟨l,hl,aI.mpr ⟨d,hd,rfl⟩⟩,?_⟩
    rw [← z3s F G hj hl' e hyj (z4W (c3 d hd))]
    exact hf
end
theorem ix_lls2 {M : List (List Nat)} {k : Nat} (h : k < M.length) : ixD (llD M) (.int (k : Int))=some (thD (M.getD k [])):=y8B h
theorem z8O {m : Nat} {T : List (List Bool)} {L : List (List Nat)} (hm : m≤8) (G : Gd T m L) {pT pO : Nat->Bool} {pI : Nat->Nat->Bool} (h : ∀ k,k < L.length->∀ i,i < (pk L k).length->pT ((pk L k).getD i 0)=(pO k && pI k i)) :
  z0Z [llD L,thD ((ag L.length).filter pO),llD ((ag L.length).map fun k=>(ag (pk L k).length).filter (pI k))]=some (thD ((ag m).filter pT)):=by
 refine z0D rfl ?_
 have hl:=G.len
 obtain ⟨U,hU⟩ : ∃ U,U=(ag L.length).filter pO:=⟨_,rfl⟩
 obtain ⟨M,hM⟩ : ∃ M,M=(ag L.length).map fun k=>(ag (pk L k).length).filter (pI k):=⟨_,rfl⟩
 have ml : M.length=L.length:=by rw [hM]; simp
 have mg : ∀ k,k < L.length->M.getD k []=(ag (pk L k).length).filter (pI k):=fun k hk=>by
  rw [hM]
  simp [be,hk]
 have ult : ∀ k∈U,k < L.length:=fun k hk=>by rw [hU] at hk; exact ad.mp (ac.mp hk).1
 have und : U.Nodup:=by rw [hU]; exact List.nodup_range.filter _
 obtain ⟨blk,hb⟩ : ∃ blk : Nat->List Nat,blk=fun k=>((ag (pk L k).length).filter (pI k)).map fun i=>(pk L k).getD i 0:=⟨_,rfl⟩
 have bin : ∀ {k x : Nat},x∈blk k↔∃ i,i < (pk L k).length∧pI k i=true∧(pk L k).getD i 0=x:=fun {k x}=>by
  rw [hb,aI]
  exact ⟨fun ⟨i,h1,h2⟩=>⟨i,ad.mp (ac.mp h1).1,(ac.mp h1).2,h2⟩,fun ⟨i,h1,h2,h3⟩=>⟨i,ac.mpr ⟨ad.mpr h1,h2⟩,h3⟩⟩
 have bnd : ∀ k,k < L.length->(blk k).Nodup:=fun k hk=>by
  rw [hb]
  show List.Pairwise _ (List.map _ _)
  rw [aY]
  refine List.Pairwise.imp_of_mem (fun {i j} hi hj hij z=>hij ?_) (List.nodup_range.filter (pI k))
  have hi:=ad.mp (ac.mp hi).1
  have hj:=ad.mp (ac.mp hj).1
  rw [aO,aO,ae hi,ae hj] at z
  exact y8J (G.ris _ (z5e hk)).nd hi hj z
 have fnd : (U.flatMap blk).Nodup:=by
  rw [List.flatMap_def]
  unfold List.Nodup
  rw [bL]
  refine ⟨fun p hp=>?_,?_⟩
  ·obtain ⟨k,hk,rfl⟩:=aI.mp hp
   exact bnd k (ult k hk)
  ·rw [aY]
   refine List.Pairwise.imp_of_mem (fun {a b} ha hb' hab x hx y hy e=>hab ?_) und
   obtain ⟨i,hi,_,rfl⟩:=bin.mp hx
   obtain ⟨j,hj,_,e2⟩:=bin.mp hy
   exact G.only (ult a ha) (ult b hb') (z4W hi) (by rw [e,← e2]; exact z4W hj)
 have lt : ∀ x∈U.flatMap blk,x < m:=fun x hx=>by
  obtain ⟨k,hk,hx⟩:=cg.mp hx
  obtain ⟨i,hi,_,rfl⟩:=bin.mp hx
  exact G.plt (ult k hk) (z4W hi)
 have so:=sort_nd lt fnd (show m≤30 by omega)
 have ew : w0 m (U.flatMap blk)=(ag m).filter pT:=uniqL (R:=fun a b : Nat=>a < b) (fun x y h1 h2=>by omega) z5k z5k fun x=>by
  rw [z5s lt,cg,ac,ad]
  constructor
  ·rintro ⟨k,hk,hx⟩
   obtain ⟨i,hi,hp,rfl⟩:=bin.mp hx
   refine ⟨G.plt (ult k hk) (z4W hi),?_⟩
   rw [h k (ult k hk) i hi,hp]
   rw [hU] at hk
   rw [(ac.mp hk).2]
   rfl
  ·rintro ⟨hx,hp⟩
   obtain ⟨k,hk,hxk⟩:=G.has hx
   obtain ⟨i,hi,rfl⟩:=y3T hxk
   rw [h k hk i hi,aJ] at hp
   exact ⟨k,by rw [hU]; exact ac.mpr ⟨ad.mpr hk,hp.1⟩,bin.mpr ⟨i,hi,hp.2,rfl⟩⟩
 rw [ew] at so
 have fle : ∀ pre post : List Nat,U=pre ++ post->(pre.flatMap blk).length≤8:=fun pre post e=>by
  have h2:=List.Nodup.length_le_of_subset (l₂:=ag m) (show (pre.flatMap blk).Nodup by
   rw [e,eE] at fnd
   exact (ba.mp fnd).1) fun x hx=>ad.mpr (lt x (by
    rw [e,eE]
    exact bO _ hx))
  rw [bG] at h2
  omega
 rw [← hU,← hM]
 have tl : ∀ W : List Nat,D.lst (W.map nD)=thD W:=fun _=>rfl
 simp! only [z3m,z2F,y3a,z2C]
 refine z0H (I:=fun s=>∃ o4,s=[some (.sh (llD L)),some (.sh (thD U)),some (.sh (llD M)),some (.ow (thD (U.flatMap blk))),o4]) (z2N (enc:=nD) (xs:=U) (fun pre s=>∃ o4,s=[some (.sh (llD L)),some (.sh (thD U)),some (.sh (llD M)),some (.ow (thD (pre.flatMap blk))),o4]) ⟨_,rfl⟩ ?_ fun s z=>⟨s,rfl,z⟩) ?_
 ·rintro pre k post e s ⟨o4,rfl⟩
  have hk:=ult k (by rw [e]; simp)
  have R:=(G.ris _ (z5e hk)).len
  have im:=ix_lls2 (M:=M) (k:=k) (by omega)
  rw [mg k hk] at im
  have cx : ∀ a : Option D,z1Q (some (((ag (pk L k).length).filter (pI k)).map nD)) (z2m z2Y (d2 ixD (d2 ixD (z0d 0) (z0d 4)) (z0d 5)) [some (llD L),some (thD U),some (llD M),a,some (.int (k : Int))])=some ((blk k).map nD):=fun a=>by
   rw [hb,aR]
   refine z2o (enc:=nD) (xs:=(ag (pk L k).length).filter (pI k)) (fun i=>nD ((pk L k).getD i 0)) (by have:=bc (pI k) (ag (pk L k).length); rw [bG] at this; omega) fun i hi=>?_
   have hi:=ad.mp (ac.mp hi).1
   have : ixD (thD (pk L k)) (.int (i : Int))=some (nD ((pk L k).getD i 0)):=by
    have e : (pk L k).getD i 0=(pk L k)[i]:=by simp [be,hi]
    rw [e]
    exact z8Q (by rw [aN,ae hi]; rfl)
   simp! only [nD,y8B hk,this]
  have h1:=fle (pre ++ [k]) post (by rw [e]; simp)
  have ef : (pre ++ [k]).flatMap blk=pre.flatMap blk ++ blk k:=by simp
  rw [ef,aK] at h1
  have ct:=y5d (a:=pre.flatMap blk) (b:=blk k) (by omega)
  rw [ef]
  obtain ⟨W,hW⟩ : ∃ W,W=pre.flatMap blk ++ blk k:=⟨_,rfl⟩
  rw [← hW] at ct ⊢
  simp! only [nD,im,z2C,cx,tl,ct,z1I,z0e]
  exact ⟨_,rfl⟩
 ·rintro s ⟨o4,rfl⟩
  simp! only [so,z1I,tl,z0e]
theorem law_true (ns : List Int) (hns : ns.length≤63) : y2t [.scr ns]=some (.bl true):=by
 refine z0D rfl ?_
 obtain ⟨_,e0,O,Is,hs,rfl,M⟩:=y7K ns
 have e0 : z1B [.scr ns]=some (y2u O Is hs):=e0
 have et:=y5i M
 have F:=y3W M
 have h0:=hs_pos M
 have h8:=M.le
 have ep:=y4A M
 have G1:=y5r M
 obtain ⟨T,hT⟩ : ∃ T,T=y5J O Is hs:=⟨_,rfl⟩
 obtain ⟨m,hm⟩ : ∃ m,m=hs.length:=⟨_,rfl⟩
 rw [← hT] at et F G1
 rw [← hm] at F h0 h8 G1
 obtain ⟨L1,hL1⟩ : ∃ L1,L1=pcs O.length hs:=⟨_,rfl⟩
 rw [← hL1] at ep G1
 obtain ⟨L,ea,G,hr⟩:=y7f F h8 h0
 have cp : ∀ d1 d3 d4 d5 d6 : Option D,z1Q (some (T.map z3A)) (z2m z2Y (z0v (z2G z7r [z0d 7])) [some (.scr ns),d1,some (z0B T),d3,d4,d5,d6])=some (T.map z3A):=fun d1 d3 d4 d5 d6=>by
  refine z2o (enc:=z3A) (xs:=T) z3A (by rw [F.sq.1]; omega) fun r _=>?_
  have lr : z7r [z3A r]=some (r.map bD):=rfl
  simp! only [lr,z3i (z1y _)]
  rfl
 have lT : D.lst (T.map z3A)=z0B T:=rfl
 have sT : y2X (z0B T)=some (T.map z3A):=rfl
 have sl : y2X (.lst [llD L1,llD L])=some ([L1,L].map llD):=rfl
 have uT:=z3I F.sq (show m≤1000 by omega)
 have kT:=z6w (z5r F) h8
 simp_all! only [g_law,e0,et,sT,cp,lT,ea,ep,sl]
 refine z0H (I:=fun s=>∃ o3 o4 o5 o6,s=[some (.sh (.scr ns)),some (.sh (y2u O Is hs)),some (.sh (z0B T)),o3,o4,o5,o6]) (z2N (enc:=llD) (xs:=[L1,L]) (fun _ s=>∃ o3 o4 o5 o6,s=[some (.sh (.scr ns)),some (.sh (y2u O Is hs)),some (.sh (z0B T)),o3,o4,o5,o6]) ⟨_,_,_,_,rfl⟩ ?_ fun s z=>⟨s,rfl,z⟩) ?_
 ·rintro pre W post e s ⟨o3,o4,o5,o6,rfl⟩
  have GW : Gd T m W:=by
   have : W∈[L1,L]:=by rw [e]; simp
   rcases ai.mp this with z | z
   ·rw [z]; exact G1
   ·rw [am.mp z]; exact G
  have hl:=GW.len
  have FO:=y0I F GW
  have fo:=y3P F GW h8
  have ll : D.lst (W.map thD)=llD W:=rfl
  have cw : ∀ d1 d4 d5 d6 : Option D,z1Q (some (W.map thD)) (z2m z2Y (z0v (z2G z7r [z0d 7])) [some (.scr ns),d1,some (z0B T),some (llD W),d4,d5,d6])=some (W.map thD):=fun d1 d4 d5 d6=>by
   refine z2o (enc:=thD) (xs:=W) thD (by omega) fun p _=>?_
   have lp : z7r [thD p]=some (p.map nD):=rfl
   simp! only [lp,z1I,z8N]
  have ppk : ∀ p∈W,(∀ x∈p,x < m)∧p.length≤8∧Full p.length (z0N p (at2 T)):=fun p hp=>⟨GW.lt hp,by have:=(GW.ris p hp).len; omega,y3k F (GW.ris p hp).nd (GW.ris p hp).lt⟩
  have ci : ∀ d1 d4 d5 d6 : Option D,z1Q (some (W.map thD)) (z2m z2Y (z0j z2c [z0d 2,z0d 7]) [some (.scr ns),d1,some (z0B T),some (llD W),d4,d5,d6])=some ((W.map fun p=>z0N p (at2 T)).map z0B):=fun d1 d4 d5 d6=>by
   rw [aR]
   refine z2o (enc:=thD) (xs:=W) (fun p=>z0B (z0N p (at2 T))) (by omega) fun p hp=>?_
   obtain ⟨p1,p2,_⟩:=ppk p hp
   simp! only [y6u F.sq (P:=p) (by omega) p1]
  obtain ⟨Ts,hTs⟩ : ∃ Ts,Ts=W.map fun p=>z0N p (at2 T):=⟨_,rfl⟩
  rw [← hTs] at ci
  have lts : D.lst (Ts.map z0B)=z4R Ts:=rfl
  have sts : y2X (z4R Ts)=some (Ts.map z0B):=rfl
  have W2 : W=(ag W.length).map (pk W):=by
   apply de
   ·simp
   ·intro i h1 h2
    unfold pk
    simp [be,h1]
  have cu : ∀ d1 d4 d6 : Option D,z1Q (some (Ts.map z0B)) (z2m z2Y (z0j z1j [z0d 7]) [some (.scr ns),d1,some (z0B T),some (llD W),d4,some (z4R Ts),d6])=some (((ag W.length).map fun k=>(ag (pk W k).length).filter fun i=>z7D (z0N (pk W k) (at2 T)) (pk W k).length i).map thD):=fun d1 d4 d6=>by
   have e1 : Ts.map z0B=(ag W.length).map fun k=>z0B (z0N (pk W k) (at2 T)):=by
    rw [hTs,aR]
    conv=>lhs; rw [W2,aR]
    rfl
   rw [e1,aR]
   refine z2o (enc:=fun k=>z0B (z0N (pk W k) (at2 T))) (xs:=ag W.length) (fun k=>thD ((ag (pk W k).length).filter fun i=>z7D (z0N (pk W k) (at2 T)) (pk W k).length i)) (by simp; omega) fun k hk=>?_
   obtain ⟨p1,p2,p3⟩:=ppk _ (z5e (ad.mp hk))
   simp! only [z3I p3.sq (show (pk W k).length≤1000 by omega)]
   rfl
  have cc : ∀ d1 d4 d6 : Option D,z1Q (some (Ts.map z0B)) (z2m z2Y (z0j z2E [z0d 7]) [some (.scr ns),d1,some (z0B T),some (llD W),d4,some (z4R Ts),d6])=some (((ag W.length).map fun k=>(ag (pk W k).length).filter fun i=>crB (z0N (pk W k) (at2 T)) (pk W k).length i).map thD):=fun d1 d4 d6=>by
   have e1 : Ts.map z0B=(ag W.length).map fun k=>z0B (z0N (pk W k) (at2 T)):=by
    rw [hTs,aR]
    conv=>lhs; rw [W2,aR]
    rfl
   rw [e1,aR]
   refine z2o (enc:=fun k=>z0B (z0N (pk W k) (at2 T))) (xs:=ag W.length) (fun k=>thD ((ag (pk W k).length).filter fun i=>crB (z0N (pk W k) (at2 T)) (pk W k).length i)) (by simp; omega) fun k hk=>?_
   obtain ⟨p1,p2,p3⟩:=ppk _ (z5e (ad.mp hk))
   simp! only [z6w (z5r p3) p2]
  have uO:=z3I FO.sq (show W.length≤1000 by omega)
  have kO:=z6w (z5r FO) (show W.length≤8 by omega)
  have wu:=z8O h8 GW (pT:=fun a=>z7D T m a) (pO:=fun a=>z7D (ouT T W) W.length a) (pI:=fun k i=>z7D (z0N (pk W k) (at2 T)) (pk W k).length i) fun k hk i hi=>y6j F GW hk hi
  have wc:=z8O h8 GW (pT:=crB T m) (pO:=crB (ouT T W) W.length) (pI:=fun k i=>crB (z0N (pk W k) (at2 T)) (pk W k).length i) fun k hk i hi=>cr_fold F GW hk hi
  obtain ⟨Mu,hMu⟩ : ∃ Mu,Mu=(ag W.length).map fun k=>(ag (pk W k).length).filter fun i=>z7D (z0N (pk W k) (at2 T)) (pk W k).length i:=⟨_,rfl⟩
  obtain ⟨Mc,hMc⟩ : ∃ Mc,Mc=(ag W.length).map fun k=>(ag (pk W k).length).filter fun i=>crB (z0N (pk W k) (at2 T)) (pk W k).length i:=⟨_,rfl⟩
  rw [← hMu] at cu wu
  rw [← hMc] at cc wc
  have lm : ∀ M : List (List Nat),D.lst (M.map thD)=llD M:=fun _=>rfl
  have wu : z0Z [llD W,thD (uncL (ouT T W) W.length),llD Mu]=some (thD (uncL T m)):=wu
  obtain ⟨X,hX⟩ : ∃ X,X=uncL T m:=⟨_,rfl⟩
  obtain ⟨Y,hY⟩ : ∃ Y,Y=(ag m).filter (crB T m):=⟨_,rfl⟩
  rw [← hX] at wu uT
  rw [← hY] at wc kT
  have nx : ∀ Z : List Nat,neD (thD Z) (thD Z)=some (.bl false):=fun Z=>ne_self (y4b Z)
  simp_all! only [y0h,cw,ll,fo,ci,lts,sts,uO,cu,lm,wu,uT,nx,kO,cc,wc,kT,z0e]
  exact ⟨_,_,_,_,rfl⟩
 ·rintro s ⟨o3,o4,o5,o6,rfl⟩
  simp! only [z0e]
end Prg
open PySem PySem.W PyProof.Rows
set_option maxRecDepth 100000 in
set_option maxHeartbeats 0 in
theorem PySem.Challenge.cw_askorder_k76_whole_uncovered_and_crowns_holds : PySem.Challenge.rw_askorder_k76_whole_uncovered_and_crowns.Holds := by
 w_on; o_law; k_head; (case hw=>w_witness2)
 k_fill
 refine Prg.walk (l:=PySem.Challenge.rw_askorder_k76_whole_uncovered_and_crowns) rfl rfl Prg.law_true (fun w h Y=>PySem.W.kIn_of Y) ?F
 case F=>
  intro w mg fa h KX G hmg
  refine' Prg.all_mk KX G hmg ?a_part ?l_part ?c_part ?k_part ?a_picked ?l_picked ?c_picked ?k_picked ?a_beaten_by ?l_beaten_by ?c_beaten_by ?k_beaten_by ?a_beats_all ?l_beats_all ?c_beats_all ?k_beats_all ?a_places_true ?l_places_true ?c_places_true ?k_places_true ?a_reached ?l_reached ?c_reached ?k_reached ?a_steps_from ?l_steps_from ?c_steps_from ?k_steps_from ?a_rings ?l_rings ?c_rings ?k_rings ?a_places_with ?l_places_with ?c_places_with ?k_places_with ?a_stands_together ?l_stands_together ?c_stands_together ?k_stands_together ?a_parting ?l_parting ?c_parting ?k_parting ?a_sees_as_one ?l_sees_as_one ?c_sees_as_one ?k_sees_as_one ?a_closure ?l_closure ?c_closure ?k_closure ?a_parts ?l_parts ?c_parts ?k_parts ?a_greatest_with ?l_greatest_with ?c_greatest_with ?k_greatest_with ?a_leads_to_all ?l_leads_to_all ?c_leads_to_all ?k_leads_to_all ?a_is_thing ?l_is_thing ?c_is_thing ?k_is_thing ?a_tells_each_once ?l_tells_each_once ?c_tells_each_once ?k_tells_each_once ?a_places_of ?l_places_of ?c_places_of ?k_places_of ?a_folded ?l_folded ?c_folded ?k_folded ?a_covers ?l_covers ?c_covers ?k_covers ?a_uncovered ?l_uncovered ?c_uncovered ?k_uncovered ?a_is_covered ?l_is_covered ?c_is_covered ?k_is_covered ?a_is_chain ?l_is_chain ?c_is_chain ?k_is_chain ?a_beaters ?l_beaters ?c_beaters ?k_beaters ?a_stands ?l_stands ?c_stands ?k_stands ?a_crowns ?l_crowns ?c_crowns ?k_crowns ?a_crown_paper ?l_crown_paper ?c_crown_paper ?k_crown_paper ?a_ended_chains ?l_ended_chains ?c_ended_chains ?k_ended_chains ?a__law_cell_at ?l__law_cell_at ?c__law_cell_at ?k__law_cell_at ?a__law_table_by ?l__law_table_by ?c__law_table_by ?k__law_table_by ?a__law_mixed ?l__law_mixed ?c__law_mixed ?k__law_mixed ?a__law_beats ?l__law_beats ?c__law_beats ?k__law_beats ?a__law_table ?l__law_table ?c__law_table ?k__law_table ?a__law_pieces ?l__law_pieces ?c__law_pieces ?k__law_pieces ?a__law_part ?l__law_part ?c__law_part ?k__law_part ?a__law_within ?l__law_within ?c__law_within ?k__law_within ?a_law ?l_law ?c_law ?k_law ?x_BadParts ?q_BadParts ?z_all ?z_enumerate ?z_sorted ?z_range ?z_len ?z_any ?z_set ?z_int ?z_isinstance ?z_bool ?z_min ?z_list
  (case a_part=>k_is)
  (case l_part=>k_is)
  (case c_part=>k_is)
  (case k_part=>k_is)
  (case a_picked=>k_is)
  (case l_picked=>k_is)
  (case c_picked=>k_is)
  (case k_picked=>k_is)
  (case a_beaten_by=>k_is)
  (case l_beaten_by=>k_is)
  (case c_beaten_by=>k_is)
  (case k_beaten_by=>k_is)
  (case a_beats_all=>k_is)
  (case l_beats_all=>k_is)
  (case c_beats_all=>k_is)
  (case k_beats_all=>k_is)
  (case a_places_true=>k_is)
  (case l_places_true=>k_is)
  (case c_places_true=>k_is)
  (case k_places_true=>k_is)
  (case a_reached=>k_is)
  (case l_reached=>k_is)
  (case c_reached=>k_is)
  (case k_reached=>k_is)
  (case a_steps_from=>k_is)
  (case l_steps_from=>k_is)
  (case c_steps_from=>k_is)
  (case k_steps_from=>k_is)
  (case a_rings=>k_is)
  (case l_rings=>k_is)
  (case c_rings=>k_is)
  (case k_rings=>k_is)
  (case a_places_with=>k_is)
  (case l_places_with=>k_is)
  (case c_places_with=>k_is)
  (case k_places_with=>k_is)
  (case a_stands_together=>k_is)
  (case l_stands_together=>k_is)
  (case c_stands_together=>k_is)
  (case k_stands_together=>k_is)
  (case a_parting=>k_is)
  (case l_parting=>k_is)
  (case c_parting=>k_is)
  (case k_parting=>k_is)
  (case a_sees_as_one=>k_is)
  (case l_sees_as_one=>k_is)
  (case c_sees_as_one=>k_is)
  (case k_sees_as_one=>k_is)
  (case a_closure=>k_is)
  (case l_closure=>k_is)
  (case c_closure=>k_is)
  (case k_closure=>k_is)
  (case a_parts=>k_is)
  (case l_parts=>k_is)
  (case c_parts=>k_is)
  (case k_parts=>k_is)
  (case a_greatest_with=>k_is)
  (case l_greatest_with=>k_is)
  (case c_greatest_with=>k_is)
  (case k_greatest_with=>k_is)
  (case a_leads_to_all=>k_is)
  (case l_leads_to_all=>k_is)
  (case c_leads_to_all=>k_is)
  (case k_leads_to_all=>k_is)
  (case a_is_thing=>k_is)
  (case l_is_thing=>k_is)
  (case c_is_thing=>k_is)
  (case k_is_thing=>k_is)
  (case a_tells_each_once=>k_is)
  (case l_tells_each_once=>k_is)
  (case c_tells_each_once=>k_is)
  (case k_tells_each_once=>k_is)
  (case a_places_of=>k_is)
  (case l_places_of=>k_is)
  (case c_places_of=>k_is)
  (case k_places_of=>k_is)
  (case a_folded=>k_is)
  (case l_folded=>k_is)
  (case c_folded=>k_is)
  (case k_folded=>k_is)
  (case a_covers=>k_is)
  (case l_covers=>k_is)
  (case c_covers=>k_is)
  (case k_covers=>k_is)
  (case a_uncovered=>k_is)
  (case l_uncovered=>k_is)
  (case c_uncovered=>k_is)
  (case k_uncovered=>k_is)
  (case a_is_covered=>k_is)
  (case l_is_covered=>k_is)
  (case c_is_covered=>k_is)
  (case k_is_covered=>k_is)
  (case a_is_chain=>k_is)
  (case l_is_chain=>k_is)
  (case c_is_chain=>k_is)
  (case k_is_chain=>k_is)
  (case a_beaters=>k_is)
  (case l_beaters=>k_is)
  (case c_beaters=>k_is)
  (case k_beaters=>k_is)
  (case a_stands=>k_is)
  (case l_stands=>k_is)
  (case c_stands=>k_is)
  (case k_stands=>k_is)
  (case a_crowns=>k_is)
  (case l_crowns=>k_is)
  (case c_crowns=>k_is)
  (case k_crowns=>k_is)
  (case a_crown_paper=>k_is)
  (case l_crown_paper=>k_is)
  (case c_crown_paper=>k_is)
  (case k_crown_paper=>k_is)
  (case a_ended_chains=>k_is)
  (case l_ended_chains=>k_is)
  (case c_ended_chains=>k_is)
  (case k_ended_chains=>k_is)
  (case a__law_cell_at=>k_is)
  (case l__law_cell_at=>k_is)
  (case c__law_cell_at=>k_is)
  (case k__law_cell_at=>k_is)
  (case a__law_table_by=>k_is)
  (case l__law_table_by=>k_is)
  (case c__law_table_by=>k_is)
  (case k__law_table_by=>k_is)
  (case a__law_mixed=>k_is)
  (case l__law_mixed=>k_is)
  (case c__law_mixed=>k_is)
  (case k__law_mixed=>k_is)
  (case a__law_beats=>k_is)
  (case l__law_beats=>k_is)
  (case c__law_beats=>k_is)
  (case k__law_beats=>k_is)
  (case a__law_table=>k_is)
  (case l__law_table=>k_is)
  (case c__law_table=>k_is)
  (case k__law_table=>k_is)
  (case a__law_pieces=>k_is)
  (case l__law_pieces=>k_is)
  (case c__law_pieces=>k_is)
  (case k__law_pieces=>k_is)
  (case a__law_part=>k_is)
  (case l__law_part=>k_is)
  (case c__law_part=>k_is)
  (case k__law_part=>k_is)
  (case a__law_within=>k_is)
  (case l__law_within=>k_is)
  (case c__law_within=>k_is)
  (case k__law_within=>k_is)
  (case a_law=>k_is)
  (case l_law=>k_is)
  (case c_law=>k_is)
  (case k_law=>k_is)
  (case x_BadParts=>k_is)
  (case q_BadParts=>first | k_exc | kernel_rfl!)
  (case z_all=>k_is)
  (case z_enumerate=>k_is)
  (case z_sorted=>k_is)
  (case z_range=>k_is)
  (case z_len=>k_is)
  (case z_any=>k_is)
  (case z_set=>k_is)
  (case z_int=>k_is)
  (case z_isinstance=>k_is)
  (case z_bool=>k_is)
  (case z_min=>k_is)
  (case z_list=>k_is)
