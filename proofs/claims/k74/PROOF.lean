import PyProof.Rows.All
import Wide.All
import OpenK.AllK
import Wide.FinOn
import Lean
import PyProof.EqAt
import PyProof.EqKinds
import PyProof.TupleCall
import PySem.Challenge.RW_askorder_k74_joined_and_folded
set_option Elab.async false
set_option linter.all false
set_option maxRecDepth 100000
open PySem.W renaming Frag → aa, nsIn → aB, findIn → aC, mg_none_of → aM, kia_one → aX, fnOf → aZ, emptyDict → bd, keepIn → bj, mroIn → br, instObj → bx, specialIn → bE, kitOne → bO, takesIn → bW, codeIn → cy, InstAt → cz, mg_of → cD, methodObj → cK, kitx_list → cL, plainGet → cM, findObj → cQ, OpenLaw → cR, lookIn → cV, excIn → c5, clsIn → c7, cellsFrom_some → db, looks_findIn → de, callWith_K → dm, plainOver → dz, hasDictIn → dA
open List renaming mem_cons_of_mem → ac, replicate → ad, getElem?_eq_getElem → ae, mem_cons_self → ag, length_map → ah, size_toArray → ai, nodup_cons → am, getD_eq_getElem?_getD → ao, mem_cons → aq, range → ar, mem_append_right → au, length_append → av, mem_append → aw, nodup_append → ay, mem_range → aD, getElem?_set_ne → aE, append_nil → aG, toArray → aI, map_map → aJ, all_eq_true → aK, getElem?_map → aL, getElem?_append_left → aN, map_cons → aO, flatten_cons → aP, append_assoc → aQ, mem_singleton → aS, map_append → aT, getElem_mem → aU, getElem?_eq_some_iff → aV, replicate_succ → aW, nodup_nil → aY, drop_eq_getElem_cons → ba, getD → bb, mem_map → bc, mem_iff_getElem → bf, mem_append_left → bg, getElem?_set_self → bi, getElem?_append_right → bp, contains_iff_mem → bq, map_reverse → bu, length_cons → bv, getElem?_replicate → bw, set_cons_zero → bA, set_cons_succ → bB, length_set → bF, length_singleton → bG, pairwise_map → bH, getElem_map → bL, find?_cons → bM, pairwise_cons → bN, length_range → bQ, getElem?_set → bR, lookup_cons → bT, drop_length → bU, take_succ_cons → b4, pairwise_iff_getElem → ce, reverse_cons → cf, any_cons → cg, nodup_range → ci, mem_flatten → cj, length_take → cq, length_drop → cr, getElem_inj → cu, ext_getElem → cv, any_map → cw, take_append_drop → cC, take_zero → cE, mem_of_getElem? → cF, map_congr_left → cH, length_reverse → cI, filterMap_cons → cJ, reverse → cN, map_set → cO, any_eq_false → cP, mem_reverse → cU, of_mem_zip → cW, nil_append → cX, mem_filter → cY, perm_ext_iff_of_nodup → c8, nodup_iff_pairwise_ne → c9, contains_eq_any_beq → dc, getElem?_cons_succ → df, take_of_length_le → dg, pairwise_lt_range → dh, filter_eq_nil_iff → di, drop_of_length_le → dl, perm_append_comm → dq, length_replicate → du, getElem?_eq_none → dv, length_pos_iff → dE, getElem?_range → dF, flatten_append → dG, mem_filterMap → dJ, map_replicate → dL, foldl → dM
open Option renaming bind_some → af, bind_none → bh, map_some → bz, getD_some → bS, isSome_iff_exists → ca, isSome_some → dB, isSome_map → dD, getD_none → dI
open Bool renaming false_ne_true → aj, and_eq_true_iff → aA, and_eq_true → aF, not_eq_true → bV, eq_iff_iff → bX, false_eq_true → b8, false_and → cG, and_false → da
open Nat renaming le_refl → ak, ne_of_lt → ax, lt_of_lt_of_le → az, le_trans → aR, zero_le → bn, lt_irrefl → bt, lt_succ_of_lt → bI, le_of_succ_le → bJ, not_lt → bP, not_lt_zero → bZ, le_of_lt → b6, ne_of_gt → cA, lt_of_succ_lt_succ → cB
open Array renaming getD_eq_getD_getElem? → aH, perm_iff_toList_perm → bK, length_toList → bY, getElem?_eq_some_iff → b7, getElem?_eq_getElem → b9, append_assoc → dH
open Int renaming zero_add → bC, toNat_natCast → cS
/-! THE HAND LAYER,for ints,z2Z,texts,own classes,LISTS and tuples (index,slices,in,append,pop ..),calls,loops. Paste it whole ahead of your own text;what your proof does not reach may be deleted. -/
noncomputable abbrev PySem.W.Fast.tw16186123539527188076:=PySem.Challenge.pw_askorder_k74_joined_and_folded
theorem PySem.W.Fast.te16186123539527188076:PySem.Challenge.pw_askorder_k74_joined_and_folded=PySem.W.Fast.tw16186123539527188076:=rfl
open PySem renaming Shared → dw, Program → dN, World → dO, FuncData → dP, cellsFrom → dR, attributeBase → dS, behindInMarks → dU, assignEach → dW, compareOp → dX, backTo → dY, bootBuiltins → dZ, Keyword → d3, assign → d4, Scope → d5

namespace L2
open PySem PySem.Spec PyProof.Rows

/-- a key: an int or a str -/
abbrev Key:=Sum Int Str
def z9Y:Key->Value->Bool
 |.inl k,v=>Value.isInt k v
 |.inr x,v=>Value.isStrOf x v
def keyH(w:dO):Key->Int
 |.inl k=>hashInt k
 |.inr x=>hashStr w x
theorem z0H:∀{k:Key} {v:Value},z9Y k v=true->(∃i t,k=Sum.inl i∧v=Value.int i t)∨(∃x t,k=Sum.inr x∧v=Value.str x t)
 |.inl i,v,h=>by
  obtain⟨t,e⟩:=Value.isInt_shape (k:=i) (v:=v) h
  exact .inl ⟨i,t,rfl,e⟩
 |.inr x,v,h=>by
  obtain⟨t,e⟩:=Value.isStrOf_shape (x:=x) (v:=v) h
  exact .inr ⟨x,t,rfl,e⟩
theorem y4c(i:Int)(t:Tok):z9Y (.inl i) (.int i t)=true:=by simp[z9Y,Value.isInt]
theorem y0T(x:Str)(t:Tok):z9Y (.inr x) (.str x t)=true:=by simp[z9Y,Value.isStrOf]
theorem key_ll(a b:Int):decide ((Sum.inl a:Key)=Sum.inl b)=(a==b):=by
 by_cases e:a=b
 ·subst e;simp
 ·have h:¬ (Sum.inl a:Key)=Sum.inl b:=fun q=>e (Sum.inl.inj q)
  rw[decide_eq_false h]
  exact(beq_eq_false_iff_ne.mpr e).symm
theorem key_rr(a b:Str):decide ((Sum.inr a:Key)=Sum.inr b)=decide (a=b):=by
 by_cases e:a=b
 ·subst e;simp
 ·have h:¬ (Sum.inr a:Key)=Sum.inr b:=fun q=>e (Sum.inr.inj q)
  rw[decide_eq_false h,decide_eq_false e]
theorem key_lr(a:Int)(b:Str):decide ((Sum.inl a:Key)=Sum.inr b)=false:=decide_eq_false (fun q=>nomatch q)
theorem key_rl(a:Str)(b:Int):decide ((Sum.inr a:Key)=Sum.inl b)=false:=decide_eq_false (fun q=>nomatch q)

def z1h(prog:dN)(w:dO):PySem.KeyKind prog w Key where
 is:=z9Y
 hash:=keyH w
 inj:=fun v a b ha hb=>by
  rcases z0H ha with⟨i,t,rfl,rfl⟩ | ⟨x,t,rfl,rfl⟩
  ·rcases z0H hb with⟨j,u,rfl,e⟩ | ⟨y,u,rfl,e⟩
   ·injection e with e1 _;rw[e1]
   ·exact nomatch e
  ·rcases z0H hb with⟨j,u,rfl,e⟩ | ⟨y,u,rfl,e⟩
   ·exact nomatch e
   ·injection e with e1 _;rw[e1]
 byValue:=fun k v h=>by
  rcases z0H h with⟨i,t,rfl,rfl⟩ | ⟨x,t,rfl,rfl⟩ <;> rfl
 pyHash:=fun hv h=>by
  rcases z0H hv with⟨i,t,rfl,rfl⟩ | ⟨x,t,rfl,rfl⟩
  ·exact wpAny_pyHash_int h
  ·exact wpAny_pyHash_str h
 eqBool:=fun hu hv h=>by
  rcases z0H hu with⟨i,t,rfl,rfl⟩ | ⟨x,t,rfl,rfl⟩
  ·rcases z0H hv with⟨j,u,rfl,rfl⟩ | ⟨y,u,rfl,rfl⟩
   ·rw[key_ll]at h;exact wpAny_eqBool_int h
   ·rw[key_lr]at h;exact SeqAt.EqAt.int_str i t y u _ _ _ _ h
  ·rcases z0H hv with⟨j,u,rfl,rfl⟩ | ⟨y,u,rfl,rfl⟩
   ·rw[key_rl]at h;exact SeqAt.EqAt.str_int x t j u _ _ _ _ h
   ·rw[key_rr]at h;exact wpAny_eqBool_str h
 «strs»:=fun k x t v h=>by
  rcases z0H h with⟨i,u,rfl,e⟩ | ⟨y,u,rfl,e⟩
  ·exact nomatch e
  ·injection e with e1 _
   subst e1
   cases v <;> rfl

theorem z7F(prog:dN)(w:dO)(i:Int)(t:Tok):(z1h prog w).is (.inl i) (.int i t)=true:=y4c i t
theorem z7K(prog:dN)(w:dO)(x:Str)(t:Tok):(z1h prog w).is (.inr x) (.str x t)=true:=y0T x t

/-- a value,without the heap -/
inductive V where
 |non | bl (b:Bool) | int (i:Int) | str (x:Str) | byt (b:Array UInt8) | flt (b:UInt64) | ref (a:Addr) | ty (n:String)
 deriving DecidableEq

def RelV:V->Value->Prop
 |.non,u=>u=Value.none
 |.bl b,u=>u=Value.bool b
 |.int i,u=>∃t,u=Value.int i t
 |.str x,u=>∃t,u=Value.str x t
 |.byt b,u=>∃t,u=Value.bytes b t
 |.flt b,u=>∃t,u=Value.float b t
 |.ref a,u=>u=Value.ref a
 |.ty n,u=>u=Value.type n

abbrev Vals:List V->List Value->Prop:=Paired RelV
theorem Vals.length{xs:List V}{us:List Value}(r:Vals xs us):xs.length=us.length:=Paired.length r
theorem Vals.get:∀{xs:List V} {us:List Value} {i:Nat} {x:V},Vals xs us->xs[i]? = some x->∃u,us[i]? = some u∧RelV x u
 |_,_,_,_,.nil,e=>by simp at e
 |_,_,0,_,.cons r _,e=>by simp at e;subst e;exact⟨_,rfl,r⟩
 |_,_,i+1,x,.cons _ t,e=>by
  obtain⟨u,h1,h2⟩:=Vals.get (i:=i) (x:=x) t (by simpa using e)
  exact⟨u,by simpa using h1,h2⟩
theorem Vals.set{x:V}{u:Value}(r:RelV x u):∀{xs:List V} {us:List Value} (i:Nat),Vals xs us->Vals (xs.set i x) (us.set i u)
 |_,_,_,.nil=>.nil
 |_,_,0,.cons _ t=>.cons r t
 |_,_,i+1,.cons q t=>.cons q (Vals.set r i t)
theorem Vals.append:∀{xs ys:List V} {us ws:List Value},Vals xs us->Vals ys ws->Vals (xs++ys) (us++ws)
 |_,_,_,_,.nil,s=>s
 |_,_,_,_,.cons r t,s=>.cons r (Vals.append t s)
theorem Vals.take:∀{xs:List V} {us:List Value} (n:Nat),Vals xs us->Vals (xs.take n) (us.take n)
 |_,_,0,_=>.nil
 |_,_,_+1,.nil=>.nil
 |_,_,n+1,.cons r t=>.cons r (Vals.take n t)
theorem Vals.drop:∀{xs:List V} {us:List Value} (n:Nat),Vals xs us->Vals (xs.drop n) (us.drop n)
 |_,_,0,r=>r
 |_,_,_+1,.nil=>.nil
 |_,_,n+1,.cons _ t=>Vals.drop n t

def RelO:Option V->Option Value->Prop
 |some v,some u=>RelV v u
 |none,none=>True
 |_,_=>False
def KV{κ:Type}:List (κ×V)->List (κ×Value)->Prop:=Paired fun(p:κ×V) (q:κ×Value)=>p.1=q.1∧RelV p.2 q.2

/-- a key of a dict (00_mix): an int or a text -/
def kV:Key->V
 |.inl i=>.int i
 |.inr x=>.str x

/-- what stands at a tracked address -/
inductive HO where
 /-- a list -/
 |lst (xs:List V)
 /-- a tuple (never changes) -/
 |tup (xs:List V)
 /-- a dict whose keys are ints and texts;one whose keys are tuples of ints and texts (the empty one is both) -/
 |dK (kvs:List (Key×V)) | dT (kvs:List (List Key×V))
 /-- a set of ints: its members,its size -/
 |set (S:Int->Bool) (n:Nat)
 /-- an instance of the class at C,its dict at dx,its attributes -/
 |ins (C dx:Addr) (fs:List (Str×V))
 /-- the dict of the instance at x -/
 |own (x:Addr)
 /-- the dict of an exception -/
 |xd (fs:List (Str×V))
 /-- a bound method,f of x -/
 |met (f x:Addr)
 /-- a range object lo,lo+1,.. below hi -/
 |rng (lo hi:Int)
 /-- a thing that is known to the object (the script;a dict while a loop walks it): read,never written while it is so -/
 |frz (o:Obj) (u:HO)
 /-- a code object's table -/
 |tbl (ps:Array Value)
 /-- any other thing,by what is true of its one object (a def of one's own: SetO a S n:=HO.ext fun h=>..) -/
 |ext (φ:Heap->Prop)

abbrev Hp:=Addr->Option HO
def upd(H:Hp)(a:Addr)(o:HO):Hp:=fun b=>if b=a then some o else H b
theorem z0s{H:Hp}{a:Addr}{o:HO}:upd H a o a=some o:=by unfold upd;rw[if_pos rfl]
theorem z0n{H:Hp}{a b:Addr}{o:HO}(h:b≠a):upd H a o b=H b:=by unfold upd;rw[if_neg h]
/-- two objects of different content stand apart -/
theorem ne_of{H:Hp}{a b:Addr}{o u:HO}(h:H a=some o)(h':H b=some u)(d:o≠u):a≠b:=by
 intro e;subst e;rw[h]at h';exact d (Option.some.inj h')
theorem z1f{H:Hp}{a b:Addr}{o:HO}(h:H a=some o)(h':H b=none):a≠b:=by
 intro e;subst e;rw[h]at h';cases h'

section
variable(P:dN)(w:dO)
/-- a tuple's object,without a dict of its own -/
def TupN(h:Heap)(a:Addr)(items:Array Value):Prop:=∃o,h.get? a=some o∧(o.cls = .type "tuple" ∧ o.dict=none)∧∃n,o.data = .seq items n
theorem TupN.is{h:Heap}{a:Addr}{items:Array Value}(x:TupN h a items):IsTup h a items:=let⟨o,e,c,n⟩:=x;⟨o,e,c.1,n⟩
theorem TupN.lt{h:Heap}{a:Addr}{items:Array Value}(x:TupN h a items):a<h.objs.size:=x.is.lt
theorem TupN.new(h:Heap)(items:Array Value):TupN (h.push { cls:=.type "tuple",data:=.seq items }) h.objs.size items:=⟨_,Heap.get?_push_size _ rfl,⟨rfl,rfl⟩,_,rfl⟩

def ObjOk(H:Hp)(h:Heap)(a:Addr):HO->Prop
 |.lst xs=>xs.length≤sizeLine∧∃(its:List Value) (n:Nat),Vals xs its∧h.get? a=some { cls:=.type "list",data:=.seq its.toArray n }
 |.tup xs=>xs.length≤sizeLine∧∃its:List Value,Vals xs its∧TupN h a its.toArray
 |.dK kvs=>kvs.length≤sizeLine∧(a==sysModules)=false∧∃vs,KV kvs vs∧h.DictOf (z1h P w) a vs
 |.dT kvs=>kvs.length≤sizeLine∧(a==sysModules)=false∧∃xs:List (List Key×Addr×Value),
   Paired (fun(p:List Key×V) (q:List Key×Addr×Value)=>p.1=q.1∧H q.2.1=some (.tup (p.1.map kV))∧RelV p.2 q.2.2) kvs xs ∧
   ∃o es ep,h.get? a=some o∧o.ExactDict∧o.data = .dict es ep∧es.toList=xs.map (entryOfKey (tupleKind (z1h P w)))∧(xs.map (·.1)).Nodup
 |.set S n=>h.SetOf (intKind P w) a S n
 |.ins C dx fs=>H dx=some (.own a)∧fs.length≤1000∧dx≠a∧h.get? a=some (bx C dx) ∧
   ∃mA,h.Ns1 dx mA∧(∀f,RelO (fs.lookup f) (mA f))∧PySem.Within mA (fs.map (·.1))
 |.own _=>∃o,h.get? a=some o
 |.xd fs=>∃mA,h.Ns1 a mA∧∀f,RelO (fs.lookup f) (mA f)
 |.rng lo hi=>∃t u v,h.get? a=some { cls:=.type "range",data:=.fields #[.int lo t,.int hi u,.int 1 v] }
 |.frz o u=>h.get? a=some o∧ObjOk H h a u
 |.tbl ps=>h.get? a=some { cls:=.none,data:=.fields ps }
 |.met f x=>h.get? a=some (cK (.ref f) (.ref x))
 |.ext φ=>φ h∧(∃o,h.get? a=some o)∧∀h1 h2:Heap,φ h1->(∀o,h1.get? a=some o->h2.get? a=some o)->φ h2
/-- the abstract heap is held -/
def HOk(H:Hp)(h:Heap):Prop:=∀a o,H a=some o->ObjOk P w H h a o
end

section
variable{P:dN}{w:dO}{H H':Hp}{h h':Heap}{a:Addr}{o:HO}
theorem ObjOk.lt(x:ObjOk P w H h a o):a<h.objs.size:=by
 cases o with
 |lst xs=>obtain⟨_,_,_,_,e⟩:=x;exact Heap.lt_size e
 |tup xs=>obtain⟨_,_,_,p⟩:=x;exact p.lt
 |dK kvs=>obtain⟨_,_,_,_,o,_,_,e,_⟩:=x;exact Heap.lt_size e
 |dT kvs=>obtain⟨_,_,_,_,o,_,_,e,_⟩:=x;exact Heap.lt_size e
 |set S n=>obtain⟨o,_,_,_,e,_⟩:=x;exact Heap.lt_size e
 |ins C dx fs=>obtain⟨_,_,_,e,_⟩:=x;exact Heap.lt_size e
 |own y=>obtain⟨_,e⟩:=x;exact Heap.lt_size e
 |xd fs=>obtain⟨_,⟨_,_,_,e,_⟩,_⟩:=x;exact Heap.lt_size e
 |rng lo hi=>obtain⟨_,_,_,e⟩:=x;exact Heap.lt_size e
 |frz ob u=>obtain⟨e,_⟩:=x;exact Heap.lt_size e
 |tbl ps=>exact Heap.lt_size (show h.get? a=some _ from x)
 |met f y=>exact Heap.lt_size (show h.get? a=some _ from x)
 |ext φ=>obtain⟨_,⟨_,e⟩,_⟩:=x;exact Heap.lt_size e
theorem Paired.mapP{α β:Type}{F G:α->β->Prop}:∀{l₁:List α} {l₂:List β},Paired F l₁ l₂->(∀a b,F a b->G a b)->Paired G l₁ l₂
 |_,_,.nil,_=>.nil
 |_,_,.cons r t,f=>.cons (f _ _ r) (Paired.mapP t f)
/-- what an object's description leans on: its own object,its own dict,the tuples -/
theorem ObjOk.stay(x:ObjOk P w H h a o)(k:∀b u,(b=a∨H b=some (.own a))->h.get? b=some u->h'.get? b=some u)
  (ho:∀b,H b=some (.own a)->H' b=some (.own a)) (ht:∀b xs,H b=some (.tup xs)->H' b=some (.tup xs)):ObjOk P w H' h' a o:=by
 induction o with
 |lst xs=>obtain⟨z,its,n,r,e⟩:=x;exact⟨z,its,n,r,k _ _ (.inl rfl) e⟩
 |tup xs=>obtain⟨z,its,r,ob,e,c⟩:=x;exact⟨z,its,r,ob,k _ _ (.inl rfl) e,c⟩
 |dK kvs=>obtain⟨z,y,vs,r,ob,es,ep,e,c⟩:=x;exact⟨z,y,vs,r,ob,es,ep,k _ _ (.inl rfl) e,c⟩
 |dT kvs=>
  obtain⟨z,y,xs,r,ob,es,ep,e,c⟩:=x
  exact⟨z,y,xs,Paired.mapP r fun p q z=>⟨z.1,ht _ _ z.2.1,z.2.2⟩,ob,es,ep,k _ _ (.inl rfl) e,c⟩
 |set S n=>obtain⟨ob,es,ep,t,e,c⟩:=x;exact⟨ob,es,ep,t,k _ _ (.inl rfl) e,c⟩
 |ins C dx fs=>
  obtain⟨d,z,ne,e,mA,⟨od,es,ep,e2,c⟩,r⟩:=x
  exact⟨ho _ d,z,ne,k _ _ (.inl rfl) e,mA,⟨od,es,ep,k _ _ (.inr d) e2,c⟩,r⟩
 |own y=>obtain⟨ob,e⟩:=x;exact⟨ob,k _ _ (.inl rfl) e⟩
 |xd fs=>obtain⟨mA,⟨od,es,ep,e,c⟩,r⟩:=x;exact⟨mA,⟨od,es,ep,k _ _ (.inl rfl) e,c⟩,r⟩
 |rng lo hi=>obtain⟨t,u,v,e⟩:=x;exact⟨t,u,v,k _ _ (.inl rfl) e⟩
 |frz ob u ih=>obtain⟨e,q⟩:=x;exact⟨k _ _ (.inl rfl) e,ih q⟩
 |tbl ps=>
  have e:h.get? a=some { cls:=.none,data:=.fields ps }:=x
  show h'.get? a=some { cls:=.none,data:=.fields ps }
  exact k a _ (.inl rfl) e
 |met f y=>
  have e:h.get? a=some (cK (.ref f) (.ref y)):=x
  show h'.get? a=some (cK (.ref f) (.ref y))
  exact k a _ (.inl rfl) e
 |ext φ=>obtain⟨p,⟨o,e⟩,st⟩:=x;exact⟨st _ _ p fun o q=>k _ _ (.inl rfl) q,⟨o,k _ _ (.inl rfl) e⟩,st⟩
theorem HOk.lt(x:HOk P w H h)(e:H a=some o):a<h.objs.size:=(x a o e).lt
theorem HOk.fresh(x:HOk P w H h)(e:h.objs.size≤a):H a=none:=by
 cases q:H a with
 |none=>rfl
 |some u=>exact absurd (az (x.lt q) e) (bt _)
/-- every object of the heap is kept -/
theorem HOk.kept(x:HOk P w H h)(k:∀b u,h.get? b=some u->h'.get? b=some u):HOk P w H h':=fun a o e=>
 (x a o e).stay (fun b u _ q=>k b u q) (fun _ q=>q) fun _ _ q=>q
/-- a new object is laid and tracked -/
theorem HOk.laid(x:HOk P w H h)(k:∀b u,h.get? b=some u->h'.get? b=some u)(hp:h.objs.size≤a)(new:ObjOk P w (upd H a o) h' a o):HOk P w (upd H a o) h':=fun b u e=>by
 have hn:=x.fresh hp
 by_cases hb:b=a
 ·subst hb;rw[z0s]at e;cases e;exact new
 ·rw[z0n hb]at e
  exact(x b u e).stay (fun c v _ q=>k c v q) (fun c q=>by rw[z0n (z1f q hn)];exact q) fun c xs q=>by rw[z0n (z1f q hn)];exact q
end

/-- what may be read as u: it is u,or a known u -/
def Rd(H:Hp)(a:Addr)(u:HO):Prop:=H a=some u∨∃o,H a=some (.frz o u)
theorem Rd.of{H:Hp}{a:Addr}{u:HO}(h:H a=some u):Rd H a u:=.inl h
theorem Rd.ok{P:dN}{w:dO}{H:Hp}{h:Heap}{a:Addr}{u:HO}(r:Rd H a u)(x:HOk P w H h):ObjOk P w H h a u:=by
 rcases r with r | ⟨o,r⟩
 ·exact x a u r
 ·obtain⟨_,q⟩:=x a _ r
  exact q
/-- what may be written -/
def Mut:Option HO->Prop
 |some (.lst _)=>True
 |some (.dK _)=>True
 |some (.dT _)=>True
 |some (.set _ _)=>True
 |some (.ins _ _ _)=>True
 |some (.ext _)=>True
 |_=>False
section
variable{P:dN}{w:dO}{H:Hp}{h h':Heap}{x e:Addr}{o':HO}
/-- the object at e is changed: x itself,or the dict of the instance x -/
theorem HOk.write(ok:HOk P w H h)(mu:Mut (H x))(he:e=x∨H e=some (.own x))(k:∀b u,b≠e->h.get? b=some u->h'.get? b=some u)(heo:∃u,h'.get? e=some u)
  (new:ObjOk P w (upd H x o') h' x o'):HOk P w (upd H x o') h':=fun b u q=>by
 have nown:∀c y,H c=some (.own y)->c≠x:=fun c y r z=>by subst z;rw[r]at mu;exact mu
 have ntup:∀c xs,H c=some (.tup xs)->c≠x:=fun c xs r z=>by subst z;rw[r]at mu;exact mu
 by_cases hb:b=x
 ·subst hb;rw[z0s]at q;cases q;exact new
 ·rw[z0n hb]at q
  by_cases hbe:b=e
  ·have q':H b=some (.own x):=by
    rcases he with z | z
    ·exact absurd (hbe.trans z) hb
    ·rw[hbe];exact z
   rw[q]at q';cases q'
   obtain⟨v,hv⟩:=heo
   exact⟨v,by rw[hbe];exact hv⟩
  ·refine(ok b u q).stay (fun c v hc r=>k c v ?_ r) (fun c r=>by rw[z0n (nown c b r)];exact r) fun c xs r=>by rw[z0n (ntup c xs r)];exact r
   rcases hc with rfl | hc
   ·exact hbe
   ·rintro rfl
    rcases he with z | z
    ·exact nown c b hc z
    ·rw[hc]at z;cases z;exact hb rfl
end

/-! ### kept unless tracked;of the frames at fs (the callers') the slots may change (an exception that passes writes there);of the records at ex (iterators) nothing is said -/
structure Un(fs ex:List Addr)(H H':Hp)(h h':Heap):Prop where
 keep:∀b o,h.get? b=some o->H b=none->b∉fs->b∉ex->h'.get? b=some o
 slot:∀b o,h.get? b=some o->H b=none->b∈fs->b∉ex->∃sl,h'.get? b=some { o with slots:=sl }
 free:∀b o,h.get? b=some o->H b=none->b∉ex->H' b=none
 there:∀b o,h.get? b=some o->b∉ex->∃o',h'.get? b=some o'
 tups:∀b xs,H b=some (.tup xs)->H' b=some (.tup xs)
 frzs:∀b o u,H b=some (.frz o u)->H' b=some (.frz o u)
 tbls:∀b ps,H b=some (.tbl ps)->∃more,H' b=some (.tbl (ps++more))
section
variable{fs fs' ex ex':List Addr}{H H1 H2:Hp}{h h1 h2 h':Heap}{a x e:Addr}{o:HO}
theorem Un.any(u:Un fs ex H H1 h h1){b:Addr}{ob:Obj}(q:h.get? b=some ob)(n:H b=none)(hx:b∉ex):∃sl,h1.get? b=some { ob with slots:=sl }:=by
 by_cases hb:b∈fs
 ·exact u.slot b ob q n hb hx
 ·exact⟨ob.slots,u.keep b ob q n hb hx⟩
theorem Un.trans(a:Un fs ex H H1 h h1)(b:Un fs ex H1 H2 h1 h2):Un fs ex H H2 h h2 where
 keep:=fun c ob q n hc hx=>b.keep c ob (a.keep c ob q n hc hx) (a.free c ob q n hx) hc hx
 slot:=fun c ob q n hc hx=>by
  obtain⟨sl,e1⟩:=a.slot c ob q n hc hx
  obtain⟨sl',e2⟩:=b.slot c _ e1 (a.free c ob q n hx) hc hx
  exact⟨sl',e2⟩
 free:=fun c ob q n hx=>by
  obtain⟨o',e1⟩:=a.there c ob q hx
  exact b.free c o' e1 (a.free c ob q n hx) hx
 there:=fun c ob q hx=>by
  obtain⟨o',e1⟩:=a.there c ob q hx
  exact b.there c o' e1 hx
 tups:=fun c xs q=>b.tups c xs (a.tups c xs q)
 frzs:=fun c ob xs q=>b.frzs c ob xs (a.frzs c ob xs q)
 tbls:=fun c ps q=>by
  obtain⟨m1,e1⟩:=a.tbls c ps q
  obtain⟨m2,e2⟩:=b.tbls c _ e1
  exact⟨m1++m2,by rw[e2,dH]⟩
theorem Un.kept(k:∀b u,h.get? b=some u->h'.get? b=some u):Un fs ex H H h h':=
 ⟨fun b ob q _ _ _=>k b ob q,fun b ob q _ _ _=>⟨ob.slots,k b ob q⟩,fun _ _ _ n _=>n,fun b ob q _=>⟨ob,k b ob q⟩,fun _ _ q=>q,fun _ _ _ q=>q,fun _ ps q=>⟨#[],by rw[q];simp⟩⟩
theorem Un.refl:Un fs ex H H h h:=Un.kept fun _ _ q=>q
theorem Un.laid(k:∀b u,h.get? b=some u->h'.get? b=some u)(hp:h.objs.size≤a)(hn:H a=none):Un fs ex H (upd H a o) h h' where
 keep:=fun b u q _ _ _=>k b u q
 slot:=fun b u q _ _ _=>⟨u.slots,k b u q⟩
 free:=fun b u q n _=>by rw[z0n (ax (az (Heap.lt_size q) hp))];exact n
 there:=fun b u q _=>⟨u,k b u q⟩
 tups:=fun b xs q=>by rw[z0n (z1f q hn)];exact q
 frzs:=fun b u xs q=>by rw[z0n (z1f q hn)];exact q
 tbls:=fun b ps q=>⟨#[],by rw[z0n (z1f q hn),q];simp⟩
theorem Un.write(mu:Mut (H x))(he:e=x∨H e=some (.own x))(k:∀b u,b≠e->h.get? b=some u->h'.get? b=some u)(heo:∃u,h'.get? e=some u):Un fs ex H (upd H x o) h h':=by
 have hx:∀b,H b=none->b≠x:=fun b n z=>by subst z;rw[n]at mu;exact mu
 have hb:∀b,H b=none->b≠e:=fun b n z=>by
  subst z
  rcases he with r | r
  ·exact hx b n r
  ·rw[n]at r;cases r
 have hm:∀b u,H b=some u->¬ Mut (some u)->b≠x:=fun b u q nm z=>by subst z;rw[q]at mu;exact nm mu
 refine⟨fun b u q n _ _=>k b u (hb b n) q,fun b u q n _ _=>⟨u.slots,k b u (hb b n) q⟩,fun b u q n _=>by rw[z0n (hx b n)];exact n,fun b u q _=>?_,
  fun b xs q=>by rw[z0n (hm b _ q fun z=>z)];exact q,fun b u xs q=>by rw[z0n (hm b _ q fun z=>z)];exact q,fun b ps q=>⟨#[],by rw[z0n (hm b _ q fun z=>z),q];simp⟩⟩
 by_cases hbe:b=e
 ·subst hbe;exact heo
 ·exact⟨u,k b u hbe q⟩
theorem Un.mono(u:Un fs ex H H1 h h1)(hs:∀b∈fs,b∈fs')(hx:∀b∈ex,b∈ex'):Un fs' ex' H H1 h h1:=
 ⟨fun b ob q n hb he=>u.keep b ob q n (fun z=>hb (hs b z)) fun z=>he (hx b z),fun _ _ q n _ he=>u.any q n fun z=>he (hx _ z),fun b ob q n he=>u.free b ob q n fun z=>he (hx b z),fun b ob q he=>u.there b ob q fun z=>he (hx b z),u.tups,u.frzs,u.tbls⟩
end

/-! ### the heap without what is tracked -/
def trk(h:Heap)(H:Hp):List Addr:=(ar h.objs.size).filter fun a=>(H a).isSome
def y4G(h:Heap)(H:Hp):Heap:=PySem.W.hideAll h (trk h H)
theorem y1E(h:Heap)(H:Hp):(y4G h H).objs.size=h.objs.size:=PySem.W.hideAll_size _ _
theorem y5E{h:Heap}{H:Hp}{b:Addr}{o:Obj}(e:h.get? b=some o)(n:H b=none):(y4G h H).get? b=some o:=
 PySem.W.hideAll_get _ e fun hm=>by
  have q:(H b).isSome=true:=(cY.mp hm).2
  rw[n]at q;simp at q
theorem of_hidT{h:Heap}{H:Hp}{b:Addr}{o:Obj}(e:(y4G h H).get? b=some o):h.get? b=some o∧H b=none:=by
 have e':h.get? b=some o:=PySem.W.of_hideAll (trk h H) e
 refine⟨e',?_⟩
 cases q:H b with
 |none=>rfl
 |some x=>
  have hm:b∈trk h H:=cY.mpr ⟨aD.mpr (Heap.lt_size e'),by simp[q]⟩
  have z:(y4G h H).get? b=none:=PySem.W.hideAll_none (trk h H) hm
  rw[z]at e;cases e

/-! ### OpenK's z6X,filled with every new object but one -/
def allNews(g h:Heap)(L:Addr):List (Addr×Obj):=(ar h.objs.size).filterMap fun a=>if a=L∨(g.get? a).isSome=true then none else(h.get? a).map fun o=>(a,o)
def rest(g h:Heap)(L d:Addr):List (Addr×Obj):=(allNews g h L).filter fun p=>decide (p.1≠d)

/-- the module's facts,over the base: the heap at the law's entry without what is tracked there -/
structure Mod(K:aa)(mg:Str->Option Value)(base:Heap):Prop where
 kin:K.In base
 glob:base.Ns mainGlobals mg
 blt:∃mb,base.Ns builtinsNs mb∧∀x:Str,x ≠ "__name__" → mb x=dZ x
 nolimit:base.NoLimit

/-- the context: a def's body (or a comprehension's block) running. base: fixed through the whole law;s₀,H₀: the entry;outer: the frames whose slots others may change (a def's callers);stack: all frames that run;
   ex: iterators that were made ahead of the entry and are walked here (a comprehension's);fn: the names whose cells were made at the entry (a def: all;a comprehension's block: its own);calm: not within an except suite;pn: pins that every state bears;xe: what is wanted of an exception that leaves the code -/
structure Cx where
 prog:dN
 w:dO
 K:aa
 mg:Str->Option Value
 base:Heap
 A:Around
 N:List Str
 s₀:dw
 H₀:Hp
 env:Env
 outer:List Env
 stack:List Env
 ex:List Addr
 fn:Str->Bool
 calm:Bool
 pn:List (Addr×Obj)
 xe:Value->dw->Prop
/-- the callers' frames -/
def frs(l:List Env):List Addr:=l.filterMap (·.frame)
abbrev Cx.fs(X:Cx):List Addr:=frs X.outer

def Vis(sc:d5)(x:Str):Prop:=sc.names.lookup x=some .local∨sc.names.lookup x=some .cell∨sc.names.lookup x=some .free
def Loc(sc:d5)(x:Str):Prop:=sc.names.lookup x=some .local∨sc.names.lookup x=some .cell
def Look(env:Env)(h:Heap)(m:Str->Option Value)(x:Str)(u:Value):Prop:=
 (env.kindOf x=some .local∧m x=some u)∨((env.kindOf x=some .cell∨env.kindOf x=some .free)∧∃c,env.cells.lookup x=some c∧h.IsCell c (some u))

structure Cx.Ok(X:Cx):Prop where
 mod:Mod X.K X.mg X.base
 kind:X.env.scope.kind = .function
 glob:X.env.globals=mainGlobals
 blt:X.env.builtins=builtinsNs
 above:X.s₀.heap.objs.size≤X.env.locals
 inj:∀x y c,X.env.cells.lookup x=some c->X.env.cells.lookup y=some c->x=y
 has:∀x,(X.env.kindOf x=some .cell∨X.env.kindOf x=some .free)->∃c,X.env.cells.lookup x=some c
 cab:∀x c,X.fn x=true->X.env.cells.lookup x=some c->X.s₀.heap.objs.size≤c
 hd:X.calm=true->X.A.handled=none
 frames:X.A.frames=some X.stack
 stk:X.stack=X.outer∨(X.stack=X.env::X.outer∧X.env.frame=some X.env.locals)
 exf:∀b∈X.ex,b≠X.env.locals∧∀x c,X.env.cells.lookup x=some c->c≠b
 bs:∀b o,X.base.get? b=some o->X.s₀.heap.get? b=some o∧X.H₀ b=none
 bsz:X.base.objs.size≤X.s₀.heap.objs.size
 noex:∀b o,X.base.get? b=some o->b∉X.ex
 exfs:∀b∈X.ex,b∉X.fs
 funs:X.s₀.heap.FunFrames X.base X.outer
 frf:∀b∈X.fs,X.H₀ b=none

structure Inv(X:Cx)(pins:List (Addr×Obj))(σ:List (Option V))(H:Hp)(s:dw):Prop where
 ok:X.Ok
 os:s.os=X.s₀.os
 bare:AllBare s.gens
 base:Un X.fs X.ex X.H₀ H X.s₀.heap s.heap
 loc:∃m,s.heap.Ns X.env.locals m∧∀(i:Nat) (x:Str) (v:V),X.N[i]? = some x->σ[i]? = some (some v)->Vis X.env.scope x->∃u,RelV v u∧Look X.env s.heap m x u
 cell:∀x c,X.env.cells.lookup x=some c->∃v,s.heap.IsCell c v
 free:H X.env.locals=none
 freeC:∀x c,X.env.cells.lookup x=some c->H c=none
 pin:∀p∈X.pn++pins,s.heap.get? p.1=some p.2∧H p.1=none∧p.1≠X.env.locals∧p.1∉X.fs∧∀v,p.2.data≠.cell v
 hok:HOk X.prog X.w H s.heap
 len:σ.length=X.N.length

section
variable{X:Cx}{pins:List (Addr×Obj)}{σ:List (Option V)}{H H':Hp}{s:dw}{h':Heap}

theorem Cx.Ok.nofr(ok:X.Ok){b:Addr}{o:Obj}(e:X.base.get? b=some o):b∉X.fs:=fun hb=>by
 have:=(ok.funs.mem hb).1
 rw[e]at this;cases this
theorem Inv.bs(I:Inv X pins σ H s):∀b o,X.base.get? b=some o->s.heap.get? b=some o∧H b=none:=fun b o e=>
 ⟨I.base.keep b o (I.ok.bs b o e).1 (I.ok.bs b o e).2 (I.ok.nofr e) (I.ok.noex b o e),I.base.free b o (I.ok.bs b o e).1 (I.ok.bs b o e).2 (I.ok.noex b o e)⟩
theorem Inv.bk(I:Inv X pins σ H s):∀b o,X.base.get? b=some o->s.heap.get? b=some o:=fun b o e=>(I.bs b o e).1
theorem Inv.mod(I:Inv X pins σ H s):Mod X.K X.mg X.base:=I.ok.mod
theorem Inv.kIn(I:Inv X pins σ H s):X.K.In s.heap:=I.ok.mod.kin.keeps I.bk
theorem Inv.nolimit(I:Inv X pins σ H s):s.heap.NoLimit:=I.ok.mod.nolimit.keeps I.bk
/-- the frame over the base: for OpenK's rules (K.In X.base is I.mod.kin) -/
theorem Inv.fr(I:Inv X pins σ H s):∃m,Fr X.base X.env.locals s.heap m:=
 let⟨m,hn,_⟩:=I.loc
 ⟨m,hn,I.bk,aR I.ok.bsz I.ok.above⟩
theorem Inv.lt(I:Inv X pins σ H s):X.env.locals<s.heap.objs.size:=let⟨_,hn,_⟩:=I.loc;hn.lt
theorem Inv.sz(I:Inv X pins σ H s):X.s₀.heap.objs.size≤s.heap.objs.size:=aR I.ok.above (b6 I.lt)
theorem Inv.nofs(I:Inv X pins σ H s){a:Addr}(h:s.heap.objs.size≤a):a∉X.fs:=fun hb=>by
 obtain⟨_,o,ho,_⟩:=I.ok.funs.mem hb
 exact absurd (az (Heap.lt_size ho) (aR I.sz h)) (bt _)
theorem Inv.cne(I:Inv X pins σ H s):∀x c,X.env.cells.lookup x=some c->c≠X.env.locals:=fun x c e z=>by
 obtain⟨v,o,ho,hd⟩:=I.cell x c e
 obtain⟨m,⟨o',es,ep,ho',hd',_⟩,_⟩:=I.loc
 rw[z,ho']at ho;cases ho;rw[hd']at hd;cases hd
theorem Inv.funs(I:Inv X pins σ H s):s.heap.FunFrames X.base X.outer:=by
 have all:∀(l:List Env),(∀b∈frs l,b∈X.fs)->X.s₀.heap.FunFrames X.base l->s.heap.FunFrames X.base l:=by
  intro l
  induction l with
  |nil=>intro _ _;trivial
  |cons env r ih=>
   intro hs hl
   obtain⟨hk,⟨L,o,hf,hn,ho,hd⟩,hr⟩:=hl
   have hL:L∈X.fs:=hs L (by unfold frs;rw[cJ,hf];exact ag)
   obtain⟨sl,e⟩:=I.base.slot L o ho (I.ok.frf L hL) hL fun z=>I.ok.exfs L z hL
   exact⟨hk,⟨L,_,hf,hn,e,hd⟩,ih (fun b hb=>hs b (by unfold frs;rw[cJ,hf];exact ac _ hb)) hr⟩
 exact all X.outer (fun _ hb=>hb) I.ok.funs

/-- the frames that run,for a call -/
theorem Inv.stack(I:Inv X pins σ H s):s.heap.FunFrames X.base X.stack:=by
 rcases I.ok.stk with e | ⟨e,hf⟩
 ·rw[e];exact I.funs
 ·rw[e]
  obtain⟨m,hn,_⟩:=I.loc
  refine .cons (by rw[I.ok.kind];decide) hf hn ?_ I.funs
  exact Heap.get?_none_of_le (aR I.ok.bsz I.ok.above)
theorem Inv.stkSub(I:Inv X pins σ H s):∀b∈frs X.stack,b∈X.env.locals::X.fs:=fun b hb=>by
 rcases I.ok.stk with e | ⟨e,hf⟩
 ·rw[e]at hb;exact ac _ hb
 ·rw[e]at hb
  unfold frs at hb
  rw[cJ,hf]at hb
  exact hb
theorem Inv.stkFree(I:Inv X pins σ H s):∀b∈frs X.stack,H b=none:=fun b hb=>by
 rcases aq.mp (I.stkSub b hb)with e | hb
 ·rw[e];exact I.free
 ·obtain⟨_,o,ho,_⟩:=I.ok.funs.mem hb
  exact I.base.free b o ho (I.ok.frf b hb) fun z=>I.ok.exfs b z hb

/-- THE STEP: the untracked objects but the frame and the records at ch are kept (the callers' frames up to slots),the frame's map is kept,the new abstract heap is held -/
theorem Inv.step{g':Array GenState}{t':Nat}{d':Drawn}{ch:List Addr}(I:Inv X pins σ H s)
  (hch:∀b∈ch,(b∈X.ex∨X.s₀.heap.objs.size≤b)∧b≠X.env.locals∧(∀x c,X.env.cells.lookup x=some c->c≠b)∧∀p∈X.pn++pins,p.1≠b)
  (keep:∀b o,b≠X.env.locals->b∉X.fs->b∉ch->s.heap.get? b=some o->H b=none->h'.get? b=some o)
  (slot:∀b o,b≠X.env.locals->b∈X.fs->b∉ch->s.heap.get? b=some o->H b=none->∃sl,h'.get? b=some { o with slots:=sl }) (free:∀b o,b∉ch->s.heap.get? b=some o->H b=none->H' b=none)
  (there:∀b o,b∉ch->s.heap.get? b=some o->∃o',h'.get? b=some o')
  (tups:∀b xs,H b=some (.tup xs)->H' b=some (.tup xs)) (frzs:∀b o u,H b=some (.frz o u)->H' b=some (.frz o u)) (tbls:∀b ps,H b=some (.tbl ps)->∃more,H' b=some (.tbl (ps++more)))
  (ns:∀m,s.heap.Ns X.env.locals m->h'.Ns X.env.locals m) (hok:HOk X.prog X.w H' h') (hg:AllBare g'):
  Inv X pins σ H' { s with heap:=h',gens:=g',drawn:=d',toks:=t' }:=by
 have neL:∀b o,X.s₀.heap.get? b=some o->b≠X.env.locals:=fun b o e=>ax (az (Heap.lt_size e) I.ok.above)
 have neC:∀b o,X.s₀.heap.get? b=some o->b∉X.ex->b∉ch:=fun b o e hx hb=>by
  rcases (hch b hb).1 with z | z
  ·exact hx z
  ·exact absurd (az (Heap.lt_size e) z) (bt _)
 have cellK:∀x c,X.env.cells.lookup x=some c->∀v,s.heap.IsCell c v->h'.IsCell c v:=fun x c e v ⟨o,ho,hd⟩=>by
  have nch:c∉ch:=fun z=>(hch c z).2.2.1 x c e rfl
  by_cases hc:c∈X.fs
  ·obtain⟨sl,q⟩:=slot c o (I.cne x c e) hc nch ho (I.freeC x c e)
   exact⟨_,q,hd⟩
  ·exact⟨o,keep c o (I.cne x c e) hc nch ho (I.freeC x c e),hd⟩
 refine⟨I.ok,I.os,hg,⟨fun b o e n hb hx=>?_,fun b o e n hb hx=>?_,fun b o e n hx=>?_,fun b o e hx=>?_,fun b xs e=>tups b xs (I.base.tups b xs e),fun b o xs e=>frzs b o xs (I.base.frzs b o xs e),fun b ps e=>?_⟩,?_,fun x c e=>?_,?_,fun x c e=>?_,fun p hp=>?_,hok,I.len⟩
 ·exact keep b o (neL b o e) hb (neC b o e hx) (I.base.keep b o e n hb hx) (I.base.free b o e n hx)
 ·obtain⟨sl,e1⟩:=I.base.slot b o e n hb hx
  obtain⟨sl',e2⟩:=slot b _ (neL b o e) hb (neC b o e hx) e1 (I.base.free b o e n hx)
  exact⟨sl',e2⟩
 ·obtain⟨o',e1⟩:=I.base.there b o e hx
  exact free b o' (neC b o e hx) e1 (I.base.free b o e n hx)
 ·obtain⟨o',e1⟩:=I.base.there b o e hx
  exact there b o' (neC b o e hx) e1
 ·obtain⟨m1,e1⟩:=I.base.tbls b ps e
  obtain⟨m2,e2⟩:=tbls b _ e1
  exact⟨m1++m2,by rw[e2,dH]⟩
 ·obtain⟨m,hn,hl⟩:=I.loc
  refine⟨m,ns m hn,fun i x v e1 e2 e3=>?_⟩
  obtain⟨u,r,l⟩:=hl i x v e1 e2 e3
  refine⟨u,r,?_⟩
  rcases l with l | ⟨k,c,e,z⟩
  ·exact .inl l
  ·exact .inr ⟨k,c,e,cellK x c e _ z⟩
 ·obtain⟨v,z⟩:=I.cell x c e
  exact⟨v,cellK x c e v z⟩
 ·obtain⟨m,⟨o,_,_,ho,_⟩,_⟩:=I.loc
  exact free _ o (fun z=>(hch _ z).2.1 rfl) ho I.free
 ·obtain⟨v,o,ho,hd⟩:=I.cell x c e
  exact free c o (fun z=>(hch c z).2.2.1 x c e rfl) ho (I.freeC x c e)
 ·obtain⟨e,n,ne,nf,d⟩:=I.pin p hp
  have nch:p.1∉ch:=fun z=>(hch p.1 z).2.2.2 p hp rfl
  exact⟨keep p.1 p.2 ne nf nch e n,free p.1 p.2 nch e n,ne,nf,d⟩
/-- .. where the frame's own object is kept too -/
theorem Inv.un{t':Nat}(I:Inv X pins σ H s)(u:Un X.fs [] H H' s.heap h')(hok:HOk X.prog X.w H' h'):Inv X pins σ H' { s with heap:=h',toks:=t' }:=by
 obtain⟨m,⟨o,es,ep,ho,r⟩,_⟩:=id I.loc
 obtain⟨sl,hL⟩:=u.any ho I.free (by simp)
 exact I.step (g':=s.gens) (d':=s.drawn) (ch:=[]) (fun _ z=>nomatch z) (fun b o _ hb _ e n=>u.keep b o e n hb (by simp)) (fun b o _ hb _ e n=>u.slot b o e n hb (by simp)) (fun b o _ e n=>u.free b o e n (by simp)) (fun b o _ e=>u.there b o e (by simp)) u.tups u.frzs u.tbls (fun m' hm=>by
  obtain⟨o',es',ep',ho',r'⟩:=hm
  rw[ho]at ho';cases ho'
  exact⟨_,es',ep',hL,r'⟩) hok I.bare
/-- behind a call (or a comprehension's block): the slots of this frame may have changed too,the records at ch may have turned -/
theorem Inv.call{g':Array GenState}{t':Nat}{d':Drawn}{ch:List Addr}(I:Inv X pins σ H s)(u:Un (frs X.stack) ch H H' s.heap h')(hok:HOk X.prog X.w H' h')(hg:AllBare g')
  (hch:∀b∈ch,(b∈X.ex∨X.s₀.heap.objs.size≤b)∧b≠X.env.locals∧(∀x c,X.env.cells.lookup x=some c->c≠b)∧∀p∈X.pn++pins,p.1≠b):
  Inv X pins σ H' { s with heap:=h',gens:=g',drawn:=d',toks:=t' }:=by
 obtain⟨m,⟨o,es,ep,ho,r⟩,_⟩:=id I.loc
 obtain⟨sl,hL⟩:=u.any ho I.free fun z=>(hch _ z).2.1 rfl
 exact I.step (ch:=ch) hch (fun b o hL hb hc e n=>u.keep b o e n (fun z=>(aq.mp (I.stkSub b z)).elim hL hb) hc) (fun b o _ _ hc e n=>u.any e n hc) (fun b o hc e n=>u.free b o e n hc) (fun b o hc e=>u.there b o e hc) u.tups u.frzs u.tbls (fun m' hm=>by
  obtain⟨o',es',ep',ho',r'⟩:=hm
  rw[ho]at ho';cases ho'
  exact⟨_,es',ep',hL,r'⟩) hok hg
/-- an untracked record of ours (an iterator) has turned -/
theorem Inv.turned{t':Nat}{it:Addr}(I:Inv X pins σ H s)(k:∀b o,b≠it->s.heap.get? b=some o->h'.get? b=some o)(hn:H it=none)(hL:it≠X.env.locals)
  (h1:it∈X.ex∨X.s₀.heap.objs.size≤it) (h2:∀x c,X.env.cells.lookup x=some c->c≠it) (h3:∀p∈X.pn++pins,p.1≠it):Inv X pins σ H { s with heap:=h',toks:=t' }:=by
 have nit:∀b u,H b=some u->b≠it:=fun b u e z=>by rw[z,hn]at e;cases e
 refine I.step (g':=s.gens) (d':=s.drawn) (ch:=[it]) (fun b hb=>?_) (fun b o _ _ hc e _=>k b o (fun z=>hc (by simp[z])) e) (fun b o _ _ hc e _=>⟨o.slots,k b o (fun z=>hc (by simp[z])) e⟩) (fun _ _ _ _ n=>n)
  (fun b o hc e=>⟨o,k b o (fun z=>hc (by simp[z])) e⟩) (fun _ _ e=>e) (fun _ _ _ e=>e) (fun b ps e=>⟨#[],by rw[e];simp⟩) (fun m hm=>?_) (fun b u e=>?_) I.bare
 ·have e:b=it:=by simpa using hb
  subst e
  exact⟨h1,hL,h2,h3⟩
 ·obtain⟨o,es,ep,ho,r⟩:=hm
  exact⟨o,es,ep,k _ o (Ne.symm hL) ho,r⟩
 ·refine(I.hok b u e).stay (fun c v hc q=>k c v ?_ q) (fun _ q=>q) fun _ _ q=>q
  rcases hc with z | z
  ·rw[z];exact nit b u e
  ·exact nit c _ z
theorem Inv.tok(I:Inv X pins σ H s)(t:Nat):Inv X pins σ H { s with toks:=t }:=I.un (h':=s.heap) (t':=t) Un.refl I.hok
/-- all objects kept -/
theorem Inv.kept{t':Nat}(I:Inv X pins σ H s)(k:∀b u,s.heap.get? b=some u->h'.get? b=some u):Inv X pins σ H { s with heap:=h',toks:=t' }:=I.un (Un.kept k) (I.hok.kept k)
/-- a new object laid and tracked -/
theorem Inv.laid{a:Addr}{o:HO}{t':Nat}(I:Inv X pins σ H s)(k:∀b u,s.heap.get? b=some u->h'.get? b=some u)(hp:s.heap.objs.size≤a)(new:ObjOk X.prog X.w (upd H a o) h' a o):
  Inv X pins σ (upd H a o) { s with heap:=h',toks:=t' }:=I.un (Un.laid k hp (I.hok.fresh hp)) (I.hok.laid k hp new)
/-- an object written -/
theorem Inv.write{x e:Addr}{o:HO}{t':Nat}(I:Inv X pins σ H s)(mu:Mut (H x))(he:e=x∨H e=some (.own x))(k:∀b u,b≠e->s.heap.get? b=some u->h'.get? b=some u)(heo:∃u,h'.get? e=some u)
  (new:ObjOk X.prog X.w (upd H x o) h' x o):Inv X pins σ (upd H x o) { s with heap:=h',toks:=t' }:=I.un (Un.write mu he k heo) (I.hok.write mu he k heo new)
theorem Inv.pins_of{pins':List (Addr×Obj)}(I:Inv X pins σ H s)(h:∀p∈pins',s.heap.get? p.1=some p.2∧H p.1=none∧p.1≠X.env.locals∧p.1∉X.fs∧∀v,p.2.data≠.cell v):Inv X pins' σ H s:=
 ⟨I.ok,I.os,I.bare,I.base,I.loc,I.cell,I.free,I.freeC,fun p hp=>(aw.mp hp).elim (fun z=>I.pin p (bg _ z)) (h p),I.hok,I.len⟩

theorem z9F{N:List Str}(hN:N.Nodup){i j:Nat}{x:Str}(a:N[i]? = some x)(b:N[j]? = some x):i=j:=by
 obtain⟨h1,e1⟩:=aV.mp a
 obtain⟨h2,e2⟩:=aV.mp b
 exact(cu hN).mp (e1.trans e2.symm)

/-- a name is stored;what changed -/
theorem z7m{M:Model}{A:Around}{E:Value->dw->Prop}{i:Nat}{x:Str}{v:V}{u:Value}{Q:Unit->dw->Prop}(I:Inv X pins σ H s)(hN:X.N.Nodup)(hi:X.N[i]? = some x)(hx:Loc X.env.scope x)(r:RelV v u)
  (h:∀s',Inv X pins (σ.set i (some v)) H s'->(∃a,Heap.SameBut a s.heap s'.heap∧(a=X.env.locals∨X.env.cells.lookup x=some a))->Q () s') (hf:X.fn x=true∨X.env.scope.names.lookup x=some .local:=by first | exact .inl rfl | exact .inr rfl | assumption):wpAny M A (storeName X.env x u) Q E s:=by
 obtain⟨m,hn,hl⟩:=id I.loc
 have hcls:(X.env.scope.kind == .class||(X.env.scope.kind == .module&&X.env.locals != X.env.globals))=false:=by rw[I.ok.kind];rfl
 have hiσ:i<σ.length:=by rw[I.len];exact(aV.mp hi).1
 have cne:=I.cne
 have tracked:∀{a:Addr} {h':Heap},(∃o,s.heap.get? a=some o∧H a=none)->Heap.SameBut a s.heap h'->HOk X.prog X.w H h':=fun {a h'} ha hs b ob e=>by
  obtain⟨_,_,hfree⟩:=ha
  refine(I.hok b ob e).stay (fun c w' hc q=>(hs.2 c ?_).trans q) (fun _ q=>q) fun _ _ q=>q
  rintro rfl
  rcases hc with rfl | hc
  ·rw[hfree]at e;cases e
  ·rw[hfree]at hc;cases hc
 rcases hx with hk | hk
 ·refine wpAny_storeName_local hk hn (fun h' hn' hs=>?_) hcls
  obtain⟨oL,_,_,hoL,_⟩:=id hn
  refine h _ ⟨I.ok,I.os,I.bare,⟨fun b o e n hb hx=>?_,fun b o e n hb hx=>?_,I.base.free,fun b o e hx=>?_,I.base.tups,I.base.frzs,I.base.tbls⟩,⟨_,hn',fun j y v' e1 e2 e3=>?_⟩,fun y c e=>?_,I.free,I.freeC,fun p hp=>?_,tracked ⟨oL,hoL,I.free⟩ hs,by simpa using I.len⟩ ⟨_,hs,.inl rfl⟩
  ·exact(hs.2 b (ax (az (Heap.lt_size e) I.ok.above))).trans (I.base.keep b o e n hb hx)
  ·obtain⟨sl,e1⟩:=I.base.slot b o e n hb hx
   exact⟨sl,(hs.2 b (ax (az (Heap.lt_size e) I.ok.above))).trans e1⟩
  ·obtain⟨o',e1⟩:=I.base.there b o e hx
   exact⟨o',(hs.2 b (ax (az (Heap.lt_size e) I.ok.above))).trans e1⟩
  ·by_cases hj:j=i
   ·subst hj
    rw[hi]at e1;cases e1
    rw[bi hiσ]at e2
    cases e2
    exact⟨u,r,.inl ⟨hk,by simp⟩⟩
   ·rw[aE (Ne.symm hj)]at e2
    obtain⟨u',r',q⟩:=hl j y v' e1 e2 e3
    refine⟨u',r',?_⟩
    rcases q with⟨k,e⟩ | ⟨k,c,e,z⟩
    ·refine .inl ⟨k,?_⟩
     have:y≠x:=fun e=>hj (z9F hN e1 (e ▸ hi))
     simp[this,e]
    ·exact .inr ⟨k,c,e,z.sameBut hs (cne y c e)⟩
  ·obtain⟨w',z⟩:=I.cell y c e
   exact⟨w',z.sameBut hs (cne y c e)⟩
  ·obtain⟨e,n,ne,nf,d⟩:=I.pin p hp
   exact⟨(hs.2 p.1 ne).trans e,n,ne,nf,d⟩
 ·have hfn:X.fn x=true:=by
   rcases hf with z | z
   ·exact z
   ·rw[z]at hk;cases hk
  obtain⟨c,hc⟩:=I.ok.has x (.inl hk)
  obtain⟨w',z⟩:=I.cell x c hc
  refine wpAny_storeName_cell I.ok.kind hk hc z (fun h' hc' hs=>?_)
  obtain⟨oc,hoc,hocd⟩:=id z
  refine h { s with heap:=h' } ⟨I.ok,I.os,I.bare,⟨fun b o e n hb hx=>?_,fun b o e n hb hx=>?_,I.base.free,fun b o e hx=>?_,I.base.tups,I.base.frzs,I.base.tbls⟩,⟨m,hn.sameBut hs (Ne.symm (cne x c hc)),fun j y v' e1 e2 e3=>?_⟩,fun y c' e=>?_,I.free,I.freeC,fun p hp=>?_,tracked ⟨oc,hoc,I.freeC x c hc⟩ hs,by simpa using I.len⟩ ⟨c,hs,.inr hc⟩
  ·exact(hs.2 b (ax (az (Heap.lt_size e) (I.ok.cab x c hfn hc)))).trans (I.base.keep b o e n hb hx)
  ·obtain⟨sl,e1⟩:=I.base.slot b o e n hb hx
   exact⟨sl,(hs.2 b (ax (az (Heap.lt_size e) (I.ok.cab x c hfn hc)))).trans e1⟩
  ·obtain⟨o',e1⟩:=I.base.there b o e hx
   exact⟨o',(hs.2 b (ax (az (Heap.lt_size e) (I.ok.cab x c hfn hc)))).trans e1⟩
  ·by_cases hj:j=i
   ·subst hj
    rw[hi]at e1;cases e1
    rw[bi hiσ]at e2
    cases e2
    exact⟨u,r,.inr ⟨.inl hk,c,hc,hc'⟩⟩
   ·rw[aE (Ne.symm hj)]at e2
    obtain⟨u',r',q⟩:=hl j y v' e1 e2 e3
    refine⟨u',r',?_⟩
    rcases q with q | ⟨k,c',e,z'⟩
    ·exact .inl q
    ·refine .inr ⟨k,c',e,z'.sameBut hs ?_⟩
     rintro rfl
     exact hj (z9F hN e1 (I.ok.inj _ _ _ e hc ▸ hi))
  ·by_cases hcc:c'=c
   ·subst hcc;exact⟨_,hc'⟩
   ·obtain⟨w2,z2⟩:=I.cell y c' e
    exact⟨w2,z2.sameBut hs hcc⟩
  ·obtain⟨e,n,ne,nf,d⟩:=I.pin p hp
   refine⟨(hs.2 p.1 ?_).trans e,n,ne,nf,d⟩
   intro q
   rw[q,hoc]at e
   have q':oc=p.2:=Option.some.inj e
   exact d w' (by rw[←q'];exact hocd)
theorem z9v{M:Model}{A:Around}{E:Value->dw->Prop}{i:Nat}{x:Str}{v:V}{u:Value}{Q:Unit->dw->Prop}(I:Inv X pins σ H s)(hN:X.N.Nodup)(hi:X.N[i]? = some x)(hx:Loc X.env.scope x)(r:RelV v u)
  (h:∀s',Inv X pins (σ.set i (some v)) H s'->Q () s') (hf:X.fn x=true∨X.env.scope.names.lookup x=some .local:=by first | exact .inl rfl | exact .inr rfl | assumption):wpAny M A (storeName X.env x u) Q E s:=
 z7m I hN hi hx r (fun s' I' _=>h s' I') hf
/-- behind a call or a block,the state as it is -/
theorem Inv.call'{s':dw}{ch:List Addr}(I:Inv X pins σ H s)(ho:s'.os=s.os)(u:Un (frs X.stack) ch H H' s.heap s'.heap)(hok:HOk X.prog X.w H' s'.heap)(hg:AllBare s'.gens)
  (hch:∀b∈ch,(b∈X.ex∨X.s₀.heap.objs.size≤b)∧b≠X.env.locals∧(∀x c,X.env.cells.lookup x=some c->c≠b)∧∀p∈X.pn++pins,p.1≠b):Inv X pins σ H' s':=by
 obtain⟨h',g',d',t',o'⟩:=s'
 have e:o'=s.os:=ho
 subst e
 exact I.call (g':=g') (t':=t') (d':=d') u hok hg hch
end

/-! ### the judgements -/
/-- an exception: its class,its own dict's address (where it has one),the abstract heap behind it -/
abbrev XK:=Value->Option Addr->Hp->Prop
abbrev St:=List (Option V)
abbrev VK:=V->Hp->Prop
/-- an expression's reading;a test's;an argument list's -/
abbrev TE:=St->Hp->VK->Prop
abbrev TT:=St->Hp->(Bool->Hp->Prop)->Prop
abbrev TA:=St->Hp->(List V->Hp->Prop)->Prop
/-- what is wanted behind a statement -/
structure Ends where
 nx:St->Hp->Prop
 rt:VK
 bk:St->Hp->Prop:=fun _ _=>False
 ct:St->Hp->Prop:=fun _ _=>False
abbrev TS:=Ends->St->Hp->Prop

def EP(X:Cx)(pins:List (Addr×Obj))(σ:St)(Q:VK)(u:Value)(s':dw):Prop:=∃v H',Inv X pins σ H' s'∧RelV v u∧Q v H'
def TP(X:Cx)(pins:List (Addr×Obj))(σ:St)(Q:Bool->Hp->Prop)(b:Bool)(s':dw):Prop:=∃H',Inv X pins σ H' s'∧Q b H'
def AP(X:Cx)(pins:List (Addr×Obj))(σ:St)(Q:List V->Hp->Prop)(us:List Value)(s':dw):Prop:=∃vs H',Inv X pins σ H' s'∧Vals vs us∧Q vs H'
def SP(X:Cx)(pins:List (Addr×Obj))(D:Ends)(f:Flow)(s':dw):Prop:=
 match f with
 |.next=>∃σ' H',Inv X pins σ' H' s'∧D.nx σ' H'
 |.brk=>∃σ' H',Inv X pins σ' H' s'∧D.bk σ' H'
 |.cont=>∃σ' H',Inv X pins σ' H' s'∧D.ct σ' H'
 |.ret u=>∃v σ' H',Inv X pins σ' H' s'∧RelV v u∧D.rt v H'

def PE(X:Cx)(e:Expr)(t:TE):Prop:=
 ∀(pins:List (Addr×Obj)) (s:dw) (σ:St) (H:Hp) (Q:VK),Inv X pins σ H s->t σ H Q->wpAny (model X.prog X.w) X.A (eval e X.env) (EP X pins σ Q) X.xe s
def PT(X:Cx)(e:Expr)(t:TT):Prop:=
 ∀(pins:List (Addr×Obj)) (s:dw) (σ:St) (H:Hp) (Q:Bool->Hp->Prop),Inv X pins σ H s->t σ H Q->wpAny (model X.prog X.w) X.A (isTrue e X.env (eval e X.env)) (TP X pins σ Q) X.xe s
/-- a test whatever its 'whole' is (and,or) -/
def PW(X:Cx)(e:Expr)(t:TT):Prop:=
 ∀(whole:Sem Value) (pins:List (Addr×Obj)) (s:dw) (σ:St) (H:Hp) (Q:Bool->Hp->Prop),Inv X pins σ H s->t σ H Q->wpAny (model X.prog X.w) X.A (isTrue e X.env whole) (TP X pins σ Q) X.xe s
theorem PW.pt{X:Cx}{e:Expr}{t:TT}(h:PW X e t):PT X e t:=h _
/-- an argument list (no star),from the left -/
def PA(X:Cx)(es:List Expr)(t:TA):Prop:=
 ∀(pos:Pos) (pins:List (Addr×Obj)) (s:dw) (σ:St) (H:Hp) (Q:List V->Hp->Prop),Inv X pins σ H s->t σ H Q->wpAny (model X.prog X.w) X.A (spliced (dY pos (starEach es X.env))) (AP X pins σ Q) X.xe s
def PS(X:Cx)(st:Stmt)(t:TS):Prop:=
 ∀(pins:List (Addr×Obj)) (s:dw) (σ:St) (H:Hp) (D:Ends),Inv X pins σ H s->t D σ H->wpAny (model X.prog X.w) X.A (exec st X.env) (SP X pins D) X.xe s
def PSs(X:Cx)(st:List Stmt)(t:TS):Prop:=
 ∀(pins:List (Addr×Obj)) (s:dw) (σ:St) (H:Hp) (D:Ends),Inv X pins σ H s->t D σ H->wpAny (model X.prog X.w) X.A (execs st X.env) (SP X pins D) X.xe s
/-- weaken the end -/
theorem thn{α:Type}{t:Sem α}{Q Q':α->dw->Prop}{M:Model}{A:Around}{E:Value->dw->Prop}{s:dw}(h:wpAny M A t Q E s)(hQ:∀a s,Q a s->Q' a s):wpAny M A t Q' E s:=wpAny_mono h hQ fun _ _ x=>x
section
variable{X:Cx}


/-! ### names and constants -/
def z5m(i:Nat):TE:=fun σ H Q=>∃v,σ[i]? = some (some v)∧Q v H
def tC(v:V):TE:=fun _ H Q=>Q v H
theorem pe_var{i:Nat}{x:Str}{pos:Pos}(hN:X.N[i]? = some x)(hv:Vis X.env.scope x)(hd:(x==("__debug__" : Str))=false:=by decide)(hcd:(x==("__classdict__" : Str))=false:=by decide):PE X (.Name x pos) (z5m i):=by
 intro pins s σ H Q I h
 obtain⟨v,e,h⟩:=h
 obtain⟨m,hn,hl⟩:=I.loc
 obtain⟨u,r,l⟩:=hl i x v hN e hv
 have fin:EP X pins σ Q u s:=⟨v,H,I,r,h⟩
 rcases l with⟨hk,hm⟩ | ⟨hk,c,hc,hcell⟩
 ·exact wpAny_Name (wpAny_loadName_local I.ok.kind hk hn hm fin) hd
 ·rcases hk with hk | hk
  ·exact wpAny_Name (wpAny_loadName_cell I.ok.kind hk hc hcell fin) hd
  ·exact wpAny_Name (wpAny_loadName_free I.ok.kind hk hc hcell fin hcd) hd
theorem pe_int{i j pos}:PE X (.Constant (.int i) j pos) (tC (.int i)):=fun _ _ _ H _ I h=>wpAny_Constant_int ⟨.int i,H,I.tok _,⟨_,rfl⟩,h⟩
theorem pe_bl{b j pos}:PE X (.Constant (.bool b) j pos) (tC (.bl b)):=fun _ _ _ H _ I h=>Constant_bool ⟨.bl b,H,I,rfl,h⟩
theorem pe_str{x j pos}:PE X (.Constant (.str x) j pos) (tC (.str x)):=fun _ _ _ H _ I h=>Calls.Constant_str ⟨.str x,H,I.tok _,⟨_,rfl⟩,h⟩

/-- a global name of the def -/
def Gl(X:Cx)(x:Str):Prop:=X.env.kindOf x=some .globalImplicit
theorem z8b{E:Value->dw->Prop}{pins:List (Addr×Obj)}{s:dw}{σ:St}{H:Hp}{x:Str}{u:Value}{pos:Pos}{Q:Value->dw->Prop}(I:Inv X pins σ H s)(hg:Gl X x)(hm:X.mg x=some u)(h:Q u s)
  (hd:(x==("__debug__" : Str))=false:=by decide):wpAny (model X.prog X.w) X.A (eval (.Name x pos) X.env) Q E s:=
 Calls.Name_function_global I.ok.kind hg (Calls.loadGlobal_global (by rw[I.ok.glob];exact I.mod.glob.keeps I.bk) hm h) hd
theorem z5x{E:Value->dw->Prop}{pins:List (Addr×Obj)}{s:dw}{σ:St}{H:Hp}{x:Str}{u:Value}{pos:Pos}{Q:Value->dw->Prop}(I:Inv X pins σ H s)(hg:Gl X x)(hm:X.mg x=none)(hv:dZ x=some u)(h:Q u s)
  (hn:x ≠ "__name__" := by decide) (hd:(x==("__debug__" : Str))=false:=by decide):wpAny (model X.prog X.w) X.A (eval (.Name x pos) X.env) Q E s:=by
 obtain⟨mb,h1,h2⟩:=I.mod.blt
 exact Calls.Name_function_global I.ok.kind hg (Calls.loadGlobal_builtin (by rw[I.ok.glob];exact I.mod.glob.keeps I.bk) hm (by rw[I.ok.blt];exact h1.keeps I.bk) ((h2 x hn).trans hv) h) hd
theorem pe_bltn{x:Str}{v:V}{u:Value}{pos:Pos}(hg:Gl X x)(hm:X.mg x=none)(hv:dZ x=some u)(r:RelV v u)(hn:x ≠ "__name__" := by decide)(hd:(x==("__debug__" : Str))=false:=by decide):PE X (.Name x pos) (tC v):=
 fun _ _ _ H _ I h=>z5x I hg hm hv ⟨v,H,I,r,h⟩ hn hd

/-! ### arithmetic -/
variable{a b:Expr}{ta tb:TE}{pos:Pos}

/-! ### comparisons -/
def PC(X:Cx)(op:CmpOp)(a b:Expr)(t:TE):Prop:=
 ∀(pins:List (Addr×Obj)) (s:dw) (σ:St) (H:Hp) (Q:VK),Inv X pins σ H s->t σ H Q →
  wpAny (model X.prog X.w) X.A (eval a X.env) (fun v s₁=>wpAny (model X.prog X.w) X.A (eval b X.env) (fun u s₂=>wpAny (model X.prog X.w) X.A (dX op v u) (EP X pins σ Q) X.xe s₂) X.xe s₁) X.xe s
theorem y5t(b:Expr){op:CmpOp}(h:op≠.In)(h2:op≠.NotIn):dU op b=false:=by
 have e1:(op==CmpOp.In)=false:=by cases op <;> first | rfl | exact absurd rfl h
 have e2:(op==CmpOp.NotIn)=false:=by cases op <;> first | rfl | exact absurd rfl h2
 cases b <;> simp[dU,e1,e2]
/-- a comparison as a value,as a test -/
def tB(t:TE):TT:=fun σ H Q=>t σ H fun x H1=>∃c,x = .bl c∧Q c H1
theorem pt_cmp{op:CmpOp}{t:TE}(h:PC X op a b t)(h1:dU op b=false:=by first | exact y5t _ (by decide) (by decide) | rfl):PT X (.Compare a [op] [b] pos) (tB t):=by
 intro pins s σ H Q I hw
 refine wpAny_isTrue_Compare1 (thn (h pins s σ H _ I hw) fun v s1 h1=>thn h1 fun u s2 h2=>thn h2 fun c s3 ⟨x,H1,I1,r1,q1⟩=>?_) h1
 obtain⟨d,rfl,q⟩:=q1
 cases r1
 exact wpAny_truthy_bool ⟨H1,I1,q⟩

/-! ### and,or,not -/
variable{tA tB':TT}{rest:List Expr}
def tAnd(t u:TT):TT:=fun σ H Q=>t σ H fun c H1=>if c=true then u σ H1 Q else Q false H1
def tOr(t u:TT):TT:=fun σ H Q=>t σ H fun c H1=>if c=true then Q true H1 else u σ H1 Q
def tNot(t:TT):TT:=fun σ H Q=>t σ H fun c H1=>Q (!c) H1
theorem pw_and1(ha:PT X a tA):PW X (.BoolOp .And [a] pos) tA:=by
 intro wh pins s σ H Q I h
 refine isTrue_and (thn (ha pins s σ H Q I h) fun c s1 e=>?_)
 cases c with
 |true=>exact isTrue_and_nil e
 |false=>exact e
theorem pw_or1(ha:PT X a tA):PW X (.BoolOp .Or [a] pos) tA:=by
 intro wh pins s σ H Q I h
 refine isTrue_or (thn (ha pins s σ H Q I h) fun c s1 e=>?_)
 cases c with
 |false=>exact isTrue_or_nil e
 |true=>exact e
theorem pw_and(ha:PT X a tA)(hb:PW X (.BoolOp .And (b::rest) pos) tB'):PW X (.BoolOp .And (a::b::rest) pos) (tAnd tA tB'):=by
 intro wh pins s σ H Q I h
 refine isTrue_and (thn (ha pins s σ H _ I h) fun c s1 ⟨H1,I1,q1⟩=>?_)
 cases c with
 |true=>exact hb wh pins s1 σ H1 Q I1 q1
 |false=>exact⟨H1,I1,q1⟩
theorem pw_or(ha:PT X a tA)(hb:PW X (.BoolOp .Or (b::rest) pos) tB'):PW X (.BoolOp .Or (a::b::rest) pos) (tOr tA tB'):=by
 intro wh pins s σ H Q I h
 refine isTrue_or (thn (ha pins s σ H _ I h) fun c s1 ⟨H1,I1,q1⟩=>?_)
 cases c with
 |true=>exact⟨H1,I1,q1⟩
 |false=>exact hb wh pins s1 σ H1 Q I1 q1
theorem pt_not(ha:PT X a tA):PT X (.UnaryOp .Not a pos) (tNot tA):=by
 intro pins s σ H Q I h
 exact isTrue_not (ha pins s σ H (fun c H1=>Q (!c) H1) I h)
/-- .. as values (z2Z) -/
def tAndV(ta tb:TE):TE:=fun σ H Q=>ta σ H fun x H1=>∃c,x = .bl c∧if c=true then tb σ H1 Q else Q (.bl false) H1
def tOrV(ta tb:TE):TE:=fun σ H Q=>ta σ H fun x H1=>∃c,x = .bl c∧if c=true then Q (.bl true) H1 else tb σ H1 Q
def tNotV(ta:TE):TE:=fun σ H Q=>ta σ H fun x H1=>∃c,x = .bl c∧Q (.bl (!c)) H1
theorem pe_one{op}{t:TE}(h:PE X a t):PE X (.BoolOp op [a] pos) t:=fun pins s σ H Q I hw=>BoolOp_one (h pins s σ H Q I hw)
theorem pe_and(ha:PE X a ta)(hb:PE X (.BoolOp .And (b::rest) pos) tb):PE X (.BoolOp .And (a::b::rest) pos) (tAndV ta tb):=by
 intro pins s σ H Q I h
 refine BoolOp_and (thn (ha pins s σ H _ I h) fun v s1 ⟨x,H1,I1,r1,q1⟩=>?_)
 obtain⟨c,rfl,q1⟩:=q1
 cases r1
 refine wpAny_truthy_bool ?_
 cases c with
 |true=>exact hb pins s1 σ H1 Q I1 q1
 |false=>exact⟨.bl false,H1,I1,rfl,q1⟩
theorem pe_or(ha:PE X a ta)(hb:PE X (.BoolOp .Or (b::rest) pos) tb):PE X (.BoolOp .Or (a::b::rest) pos) (tOrV ta tb):=by
 intro pins s σ H Q I h
 refine BoolOp_or (thn (ha pins s σ H _ I h) fun v s1 ⟨x,H1,I1,r1,q1⟩=>?_)
 obtain⟨c,rfl,q1⟩:=q1
 cases r1
 refine wpAny_truthy_bool ?_
 cases c with
 |false=>exact hb pins s1 σ H1 Q I1 q1
 |true=>exact⟨.bl true,H1,I1,rfl,q1⟩
theorem pe_not(ha:PE X a ta):PE X (.UnaryOp .Not a pos) (tNotV ta):=by
 intro pins s σ H Q I h
 refine UnaryOp_ (thn (ha pins s σ H _ I h) fun v s1 ⟨x,H1,I1,r1,q1⟩=>?_)
 obtain⟨c,rfl,q1⟩:=q1
 cases r1
 exact not_of (wpAny_truthy_bool ⟨.bl (!c),H1,I1,rfl,q1⟩)
end

/-! ### a list,a tuple that is read: tracked,frozen,or an object of the module -/
def SqL(K:aa)(H:Hp)(a:Addr)(xs:List V):Prop:=
 Rd H a (.lst xs) ∨
  ∃(o:Obj) (its:Array Value) (n:Nat),K.lookup a=some o∧o.cls = .type "list" ∧ o.dict=none∧o.data = .seq its n∧its.size≤sizeLine∧Vals xs its.toList
def SqT(K:aa)(H:Hp)(a:Addr)(xs:List V):Prop:=
 Rd H a (.tup xs) ∨
  ∃(o:Obj) (its:Array Value) (n:Nat),K.lookup a=some o∧(o.cls = .type "tuple" ∧ o.dict=none)∧o.data = .seq its n∧its.size≤sizeLine∧Vals xs its.toList
def absV:Value->Option V
 |.none=>some .non
 |.bool b=>some (.bl b)
 |.int i _=>some (.int i)
 |.str x _=>some (.str x)
 |.bytes b _=>some (.byt b)
 |.float b _=>some (.flt b)
 |.ref a=>some (.ref a)
 |.type n=>some (.ty n)
 |_=>none
theorem RelV.abs{x:V}{u:Value}(r:RelV x u):absV u=some x:=by
 cases x with
 |non=>cases r;rfl
 |bl _=>cases r;rfl
 |int _=>obtain⟨t,rfl⟩:=r;rfl
 |str _=>obtain⟨t,rfl⟩:=r;rfl
 |byt _=>obtain⟨t,rfl⟩:=r;rfl
 |flt _=>obtain⟨t,rfl⟩:=r;rfl
 |ref _=>cases r;rfl
 |ty _=>cases r;rfl
theorem RelV.inj{x y:V}{u:Value}(r:RelV x u)(q:RelV y u):x=y:=Option.some.inj (r.abs.symm.trans q.abs)
theorem Vals.inj:∀{xs ys:List V} {us:List Value},Vals xs us->Vals ys us->xs=ys
 |_,_,_,.nil,.nil=>rfl
 |_,_,_,.cons r t,.cons r' t'=>by rw[r.inj r',Vals.inj t t']
section
variable{X:Cx}{pins:List (Addr×Obj)}{σ:St}{H:Hp}{s:dw}{a:Addr}{xs ys:List V}
theorem SqL.of{K:aa}(h:H a=some (.lst xs)):SqL K H a xs:=.inl (.inl h)
theorem SqT.of{K:aa}(h:H a=some (.tup xs)):SqT K H a xs:=.inl (.inl h)
theorem Inv.list(I:Inv X pins σ H s)(h:SqL X.K H a xs):∃its:List Value,Vals xs its∧PlainL s.heap a its.toArray∧xs.length≤sizeLine:=by
 rcases h with h | ⟨o,its,n,hk,hc,hd,hs,hz,r⟩
 ·obtain⟨z,its,n,r,e⟩:=h.ok I.hok
  exact⟨its,r,⟨_,n,e,rfl,rfl,rfl⟩,z⟩
 ·refine⟨its.toList,r,⟨o,n,I.kIn a o hk,hc,hd,by simpa using hs⟩,?_⟩
  have e:=r.length
  simp only[bY]at e
  omega
theorem Inv.tuple(I:Inv X pins σ H s)(h:SqT X.K H a xs):∃its:List Value,Vals xs its∧IsTup s.heap a its.toArray∧xs.length≤sizeLine:=by
 rcases h with h | ⟨o,its,n,hk,hc,hs,hz,r⟩
 ·obtain⟨z,its,r,p⟩:=h.ok I.hok
  exact⟨its,r,p.is,z⟩
 ·refine⟨its.toList,r,⟨o,I.kIn a o hk,hc.1,n,by simpa using hs⟩,?_⟩
  have e:=r.length
  simp only[bY]at e
  omega
theorem Inv.list_inj(I:Inv X pins σ H s)(h:SqL X.K H a xs)(h':SqL X.K H a ys):xs=ys:=by
 obtain⟨its,r,⟨o,n,e,_,_,d⟩,_⟩:=I.list h
 obtain⟨its',r',⟨o',n',e',_,_,d'⟩,_⟩:=I.list h'
 rw[e]at e';cases e'
 rw[d]at d'
 injection d' with d1 _
 have:its=its':=by simpa using congrArg Array.toList d1
 subst this
 exact r.inj r'
theorem Inv.tuple_inj(I:Inv X pins σ H s)(h:SqT X.K H a xs)(h':SqT X.K H a ys):xs=ys:=by
 obtain⟨its,r,⟨o,e,_,n,d⟩,_⟩:=I.tuple h
 obtain⟨its',r',⟨o',e',_,n',d'⟩,_⟩:=I.tuple h'
 rw[e]at e';cases e'
 rw[d]at d'
 injection d' with d1 _
 have:its=its':=by simpa using congrArg Array.toList d1
 subst this
 exact r.inj r'
end

/-! ### another wish about exceptions -/
abbrev Cx.wish(X:Cx)(E:Value->dw->Prop):Cx:={ X with xe:=E }
/-- no exception leaves -/
abbrev Cx.nox(X:Cx):Cx:=X.wish fun _ _=>False
theorem Cx.Ok.wish{X:Cx}(ok:X.Ok)(E:Value->dw->Prop):(X.wish E).Ok:=
 ⟨ok.mod,ok.kind,ok.glob,ok.blt,ok.above,ok.inj,ok.has,ok.cab,ok.hd,ok.frames,ok.stk,ok.exf,ok.bs,ok.bsz,ok.noex,ok.exfs,ok.funs,ok.frf⟩
theorem Cx.Ok.unwish{X:Cx}{E:Value->dw->Prop}(ok:(X.wish E).Ok):X.Ok:=
 ⟨ok.mod,ok.kind,ok.glob,ok.blt,ok.above,ok.inj,ok.has,ok.cab,ok.hd,ok.frames,ok.stk,ok.exf,ok.bs,ok.bsz,ok.noex,ok.exfs,ok.funs,ok.frf⟩
section
variable{X:Cx}{pins:List (Addr×Obj)}{σ:St}{H:Hp}{s:dw}{E:Value->dw->Prop}
theorem Inv.wish(I:Inv X pins σ H s)(E:Value->dw->Prop):Inv (X.wish E) pins σ H s:=⟨I.ok.wish E,I.os,I.bare,I.base,I.loc,I.cell,I.free,I.freeC,I.pin,I.hok,I.len⟩
theorem Inv.unwish(I:Inv (X.wish E) pins σ H s):Inv X pins σ H s:=⟨I.ok.unwish,I.os,I.bare,I.base,I.loc,I.cell,I.free,I.freeC,I.pin,I.hok,I.len⟩
theorem SP.unwish{D:Ends}{f:Flow}{s':dw}(h:SP (X.wish E) pins D f s'):SP X pins D f s':=by
 cases f with
 |next=>obtain⟨σ',H',I,q⟩:=h;exact⟨σ',H',I.unwish,q⟩
 |brk=>obtain⟨σ',H',I,q⟩:=h;exact⟨σ',H',I.unwish,q⟩
 |cont=>obtain⟨σ',H',I,q⟩:=h;exact⟨σ',H',I.unwish,q⟩
 |ret u=>obtain⟨v,σ',H',I,r,q⟩:=h;exact⟨v,σ',H',I.unwish,r,q⟩
theorem PE.nox{e:Expr}{t:TE}(h:PE X.nox e t):PE X e t:=fun pins s σ H Q I hw=>
 wpAny_mono (h pins s σ H Q (I.wish _) hw) (fun _ _ ⟨v,H',I',r,q⟩=>⟨v,H',I'.unwish,r,q⟩) fun _ _ z=>False.elim z
theorem PT.nox{e:Expr}{t:TT}(h:PT X.nox e t):PT X e t:=fun pins s σ H Q I hw=>
 wpAny_mono (h pins s σ H Q (I.wish _) hw) (fun _ _ ⟨H',I',q⟩=>⟨H',I'.unwish,q⟩) fun _ _ z=>False.elim z
theorem PSs.nox{st:List Stmt}{t:TS}(h:PSs X.nox st t):PSs X st t:=fun pins s σ H D I hw=>
 wpAny_mono (h pins s σ H D (I.wish _) hw) (fun _ _ q=>q.unwish) fun _ _ z=>False.elim z
end

/-! ### blocks and small statements -/
section
variable{X:Cx}{st:Stmt}{rest:List Stmt}{t u:TS}{e:Expr}{te:TE}{pos:Pos}
def tNext:TS:=fun D σ H=>D.nx σ H
def tSeq(t u:TS):TS:=fun D σ H=>t { D with nx:=u D } σ H
theorem pss_nil:PSs X [] tNext:=fun _ _ σ H _ I h=>wpAny_execs_nil ⟨σ,H,I,h⟩
theorem y5n(h1:PS X st t)(h2:PSs X rest u):PSs X (st::rest) (tSeq t u):=by
 intro pins s σ H D I h
 refine wpAny_execs_cons (thn (h1 pins s σ H { D with nx:=u D } I h) fun f s1 q=>?_)
 cases f with
 |next=>
  obtain⟨σ',H',I',q⟩:=q
  exact h2 pins s1 σ' H' D I' q
 |ret v=>exact q
 |brk=>exact q
 |cont=>exact q
theorem pss_one(h1:PS X st t):PSs X [st] t:=by
 intro pins s σ H D I h
 refine wpAny_execs_cons (thn (h1 pins s σ H D I h) fun f s1 q=>?_)
 cases f with
 |next=>exact wpAny_execs_nil q
 |ret v=>exact q
 |brk=>exact q
 |cont=>exact q
/-- in a def's body nothing is shown -/
theorem Inv.quiet{pins:List (Addr×Obj)}{σ:St}{H:Hp}{s:dw}(I:Inv X pins σ H s):interactive X.env=false:=by simp[interactive,I.ok.kind]
/-- an expression whose value is dropped -/
def tDrop(te:TE):TS:=fun D σ H=>te σ H fun _ H1=>D.nx σ H1
theorem z2P(he:PE X e te)(hs:swapsWith e none pos.line X.env=pure false:=by rfl):PS X (.Expr e pos) (tDrop te):=by
 intro pins s σ H D I h
 exact wpAny_Expr_any (thn (he pins s σ H _ I h) fun v s1 ⟨x,H1,I1,r1,q1⟩=>⟨σ,H1,I1,q1⟩) I.quiet hs
def tRet(te:TE):TS:=fun D σ H=>te σ H D.rt
theorem z9s(he:PE X e te):PS X (.Return (some e) pos) (tRet te):=by
 intro pins s σ H D I h
 exact wpAny_Return_some (thn (he pins s σ H _ I h) fun v s1 ⟨x,H1,I1,r1,q1⟩=>⟨x,σ,H1,I1,r1,q1⟩)
def tIfS(c:TT)(t u:TS):TS:=fun D σ H=>c σ H fun b H1=>if b=true then t D σ H1 else u D σ H1
theorem ps_if{c:Expr}{a b:List Stmt}{tc:TT}(hc:PT X c tc)(ha:PSs X a t)(hb:PSs X b u):PS X (.If c a b pos) (tIfS tc t u):=by
 intro pins s σ H D I h
 refine wpAny_If (thn (hc pins s σ H _ I h) fun d s1 ⟨H1,I1,q1⟩=>?_)
 cases d with
 |true=>exact ha pins s1 σ H1 D I1 q1
 |false=>exact hb pins s1 σ H1 D I1 q1
end

/-! ### targets -/
abbrev TG:=V->St->Hp->(St->Hp->Prop)->Prop
abbrev TGs:=List V->St->Hp->(St->Hp->Prop)->Prop
def PG(X:Cx)(target:Expr)(t:TG):Prop:=
 ∀(pins:List (Addr×Obj)) (s:dw) (σ:St) (H:Hp) (v:V) (u:Value) (Q:St->Hp->Prop),Inv X pins σ H s->RelV v u->t v σ H Q →
  wpAny (model X.prog X.w) X.A (d4 target X.env u) (fun _ s'=>∃σ' H',Inv X pins σ' H' s'∧Q σ' H') X.xe s
/-- several targets,one after another -/
def PGs(X:Cx)(ts:List Expr)(t:TGs):Prop:=
 ∀(pins:List (Addr×Obj)) (s:dw) (σ:St) (H:Hp) (vs:List V) (us:List Value) (Q:St->Hp->Prop),Inv X pins σ H s->Vals vs us->t vs σ H Q →
  wpAny (model X.prog X.w) X.A (assignInOrder ((dW ts X.env).map (·.2)) us) (fun _ s'=>∃σ' H',Inv X pins σ' H' s'∧Q σ' H') X.xe s
/-- o[i]=v,by values -/
abbrev TSet:=V->V->V->Hp->(Hp->Prop)->Prop
def PSet(X:Cx)(t:TSet):Prop:=
 ∀(pins:List (Addr×Obj)) (s:dw) (σ:St) (H:Hp) (o i v:V) (ov iv u:Value) (Q:Hp->Prop),Inv X pins σ H s->RelV o ov->RelV i iv->RelV v u->t o i v H Q →
  wpAny (model X.prog X.w) X.A (setItem ov iv u) (fun _ s'=>∃H',Inv X pins σ H' s'∧Q H') X.xe s
section
variable{X:Cx}{pos:Pos}
def z2B(i:Nat):TG:=fun v σ H Q=>Q (σ.set i (some v)) H
theorem z0m{i:Nat}{x:Str}(hN:X.N.Nodup)(hi:X.N[i]? = some x)(hx:Loc X.env.scope x)(hf:X.fn x=true∨X.env.scope.names.lookup x=some .local:=by first | exact .inl rfl | exact .inr rfl | assumption):PG X (.Name x pos) (z2B i):=by
 intro pins s σ H v u Q I r h
 exact wpAny_assign_Name (z9v I hN hi hx r (fun s' I'=>⟨_,H,I',h⟩) hf)
def gNil:TGs:=fun vs σ H Q=>vs=[]∧Q σ H
def gCons(t:TG)(u:TGs):TGs:=fun vs σ H Q=>∃v r,vs=v::r∧t v σ H fun σ' H'=>u r σ' H' Q
theorem pgs_nil:PGs X [] gNil:=by
 intro pins s σ H vs us Q I r h
 obtain⟨e,h⟩:=h
 subst e
 cases r
 exact assignInOrder_nil ⟨σ,H,I,h⟩
theorem z9G{e:Expr}{es:List Expr}{t:TG}{u:TGs}(h1:PG X e t)(h2:PGs X es u)
  (hs:(dW (e::es) X.env).map (·.2)=d4 e X.env::(dW es X.env).map (·.2):=by rfl):PGs X (e::es) (gCons t u):=by
 intro pins s σ H vs us Q I r h
 obtain⟨v,vr,e1,h⟩:=h
 subst e1
 cases r with
 |cons r rr=>
  rw[hs]
  refine assignInOrder_cons (thn (h1 pins s σ H _ _ _ I r h) fun _ s1 ⟨σ1,H1,I1,q1⟩=>?_)
  exact h2 pins s1 σ1 H1 _ _ Q I1 rr q1
/-- (a,b,..)=a tuple of that length -/
def gTup(K:aa)(n:Nat)(t:TGs):TG:=fun v σ H Q=>∃a xs,v = .ref a∧SqT K H a xs∧xs.length=n∧t xs σ H Q
theorem pg_tup{es:List Expr}{k:Nat}{t:TGs}{n:Nat}(hc:X.calm=true)(h:PGs X es t)
  (hn:(dW es X.env).length=n:=by rfl) (hst:(dW es X.env).findIdx? (·.1)=none:=by rfl):PG X (.Tuple es k pos) (gTup X.K n t):=by
 intro pins s σ H v u Q I r hw
 obtain⟨a,xs,e1,hq,hl,hw⟩:=hw
 subst e1
 cases r
 obtain⟨its,rv,ht,hz⟩:=I.tuple hq
 refine assign_Tuple_tuple (I.ok.hd hc) ht (by simp[hn,←hl,rv.length]) hst fun h' hx=>?_
 have I1:Inv X pins σ H { s with heap:=h' }:=I.kept (t':=s.toks) fun b o e=>hx b o (ax (Heap.lt_size e)) e
 exact h pins _ σ H xs _ Q I1 (by simpa using rv) hw
/-- o[i] = .. -/
def gSub(to ti:TE)(t:TSet):TG:=fun v σ H Q=>to σ H fun o H1=>ti σ H1 fun i H2=>t o i v H2 fun H3=>Q σ H3
theorem y0r{o i:Expr}{to ti:TE}{t:TSet}(ho:PE X o to)(hi:PE X i ti)(hs:PSet X t)
  (ha:∀v,d4 (.Subscript o i pos) X.env v=(do
   let ov ←holding [v] (eval o X.env)
   let iv ←holding [v,ov] (eval i X.env)
   standAt pos
   holding [v,ov,iv] (setItem ov iv v)
   release [v,ov,iv] []):=by intro _;rfl):PG X (.Subscript o i pos) (gSub to ti t):=by
 intro pins s σ H v u Q I r h
 rw[ha]
 refine wpAny_bind (wpAny_holding (thn (ho pins s σ H _ I h) fun ov s1 ⟨x,H1,I1,r1,q1⟩=>?_))
 refine wpAny_bind (wpAny_holding (thn (hi pins s1 σ H1 _ I1 q1) fun iv s2 ⟨y,H2,I2,r2,q2⟩=>?_))
 refine wpAny_bind (wpAny_standAt (wpAny_bind (wpAny_holding (thn (hs pins s2 σ H2 x y v ov iv u _ I2 r1 r2 r q2) fun _ s3 ⟨H3,I3,q3⟩=>?_))))
 exact wpAny_release ⟨σ,H3,I3,q3⟩
/-- target=value -/
def tAsg(te:TE)(g:TG):TS:=fun D σ H=>te σ H fun x H1=>g x σ H1 D.nx
theorem y3T{tg e:Expr}{te:TE}{g:TG}(he:PE X e te)(hg:PG X tg g)(hs:swapsWithSole [tg] e pos.line X.env=pure false:=by rfl)(hw:swappedStores [tg] e X.env=pure none:=by rfl)
  (h1:(dW [tg] X.env).map (·.2)=[d4 tg X.env]:=by rfl):PS X (.Assign [tg] e pos) (tAsg te g):=by
 intro pins s σ H D I h
 refine wpAny_Assign_stores (thn (he pins s σ H _ I h) fun v s1 ⟨x,H1,I1,r1,q1⟩=>?_) hs hw
 rw[h1]
 exact thn (hg pins s1 σ H1 x v _ I1 r1 q1) fun _ s2 q=>q
/-- name=value -/
theorem ps_set{i:Nat}{x:Str}{e:Expr}{te:TE}{pos':Pos}(hN:X.N.Nodup)(hi:X.N[i]? = some x)(hx:Loc X.env.scope x)(he:PE X e te)(hs:swapsWith e (some (.Name x pos')) pos.line X.env=pure false:=by rfl)(hf:X.fn x=true∨X.env.scope.names.lookup x=some .local:=by first | exact .inl rfl | exact .inr rfl | assumption):
  PS X (.Assign [.Name x pos'] e pos) (tAsg te (z2B i)):=by
 intro pins s σ H D I h
 refine wpAny_Assign_Name (thn (he pins s σ H _ I h) fun v s1 ⟨y,H1,I1,r1,q1⟩=>?_) hs
 exact z9v I1 hN hi hx r1 (fun s2 I2=>⟨_,H1,I2,q1⟩) hf
end

/-! ### while -/
section
end

/-! ### what a loop or a comprehension walks -/
/-- at turn i: it yields x (the heap may grow),or it stops -/
structure It where
 go:Nat->Hp->Prop
 yld:Nat->Hp->V->Hp->Prop
 stop:Nat->Hp->Prop
/-- the iterator's own objects may turn: they are not the frame's,not pinned,younger than the entry (or a comprehension's own) -/
def z7x(X:Cx)(pins:List (Addr×Obj))(H:Hp)(b:Addr):Prop:=
 H b=none∧b≠X.env.locals∧b∉X.fs∧(b∈X.ex∨X.s₀.heap.objs.size≤b)∧(∀x c,X.env.cells.lookup x=some c->c≠b)∧∀p∈X.pn++pins,p.1≠b
theorem Inv.fpOk{X:Cx}{pins:List (Addr×Obj)}{σ:St}{H H':Hp}{s:dw}{b:Addr}(I:Inv X pins σ H s)(hb:s.heap.objs.size≤b)(hn:H' b=none):z7x X pins H' b:=by
 refine⟨hn,cA (az I.lt hb),I.nofs hb,.inr (aR I.sz hb),fun x c e z=>?_,fun p hp z=>?_⟩
 ·obtain⟨v,q⟩:=I.cell x c e
  exact absurd (az q.lt (by rw[z];exact hb)) (bt _)
 ·exact absurd (az (Heap.lt_size (I.pin p hp).1) (by rw[z];exact hb)) (bt _)
structure Turn(P:dN)(w:dO)(K:aa)(tg:Expr)(J:It)(fp:List Addr)(it:Addr)(tn:Nat->Heap->Prop):Prop where
 mem:it∈fp
 obj:∀i h,tn i h->∀b∈fp,∃o,h.get? b=some o∧∀v,o.data≠.cell v
 keep:∀i h h',tn i h->(∀b∈fp,∀o,h.get? b=some o->h'.get? b=some o)->tn i h'
 item:∀(X:Cx),X.prog=P->X.w=w->X.K=K->X.calm=true->∀(i:Nat) (pins:List (Addr×Obj)) (s:dw) (σ:St) (H:Hp) (E:Value->dw->Prop),Inv X pins σ H s->(∀b∈fp,z7x X pins H b)->tn i s.heap->J.go i H →
  wpAny (model P w) X.A (pyNext (.ref it)) (fun r s1=>∃u,r=some u ∧
   wpAny (model P w) X.A (letOwnedTupleGo tg (.ref it) u) (fun _ s2=>∃x H',Inv X pins σ H' s2∧RelV x u∧J.yld i H x H'∧tn (i+1) s2.heap∧∀b∈fp,H' b=none) E s1) E s
 done:∀(X:Cx),X.prog=P->X.w=w->X.K=K->X.calm=true->∀(i:Nat) (pins:List (Addr×Obj)) (s:dw) (σ:St) (H:Hp) (E:Value->dw->Prop),Inv X pins σ H s->(∀b∈fp,z7x X pins H b)->tn i s.heap->J.stop i H →
  wpAny (model P w) X.A (pyNext (.ref it)) (fun r s1=>r=none∧Inv X pins σ H s1) E s
 self:∀(A:Around) (i:Nat) (s:dw) (Q:Value->dw->Prop) (E:Value->dw->Prop),tn i s.heap->Q (.ref it) s->wpAny (model P w) A (pyIter (.ref it)) Q E s
abbrev TI:=St->Hp->(It->Hp->Prop)->Prop
/-- an iterator has come -/
def PIE(X:Cx)(pins:List (Addr×Obj))(σ:St)(tg:Expr)(R:It->Hp->Prop)(itv:Value)(s2:dw):Prop:=
 ∃(it:Addr) (fp:List Addr) (tn:Nat->Heap->Prop) (J:It) (H':Hp),itv = .ref it∧Inv X pins σ H' s2∧Turn X.prog X.w X.K tg J fp it tn∧tn 0 s2.heap∧(∀b∈fp,z7x X pins H' b)∧R J H'
def PI(X:Cx)(tg iter:Expr)(wi:TI):Prop:=
 ∀(pins:List (Addr×Obj)) (s:dw) (σ:St) (H:Hp) (R:It->Hp->Prop),Inv X pins σ H s->wi σ H R →
  wpAny (model X.prog X.w) X.A (eval iter X.env) (fun v s1=>wpAny (model X.prog X.w) X.A (pyIter v) (PIE X pins σ tg R) X.xe s1) X.xe s

/-- the step ahead of the store is nothing for an iterator that keeps no tuple -/
theorem go_of{M:Model}{A:Around}{E:Value->dw->Prop}{s:dw}{tg:Expr}{it:Addr}{u:Value}{o:Obj}{n:String}{vs:Array Value}{Q:Unit->dw->Prop}(ho:s.heap.get? it=some o)(hc:o.cls = .type n)(hd:o.data = .fields vs)
  (hn:["enumerate", "zip", "dict_itemiterator", "dict_reverseitemiterator", "odict_iterator", "itertools.zip_longest", "itertools.pairwise"].contains n=false) (hQ:Q () s):wpAny M A (letOwnedTupleGo tg (.ref it) u) Q E s:=by
 unfold letOwnedTupleGo
 cases tg <;> first
  |exact wpAny_pure hQ
  | (cases u <;> first
    |exact wpAny_pure hQ
    | (refine wpAny_bind (wpAny_load ho ?_)
       rw[hc,hd]
       show wpAny M A (if(["enumerate", "zip", "dict_itemiterator", "dict_reverseitemiterator", "odict_iterator", "itertools.zip_longest", "itertools.pairwise"].contains n&&vs[0]? == some (rawInt _))=true then _ else _) Q E s
       rw[if_neg (by intro h;rw[hn,cG]at h;cases h)]
       exact wpAny_pure hQ))

/-- the list at a,as it stands at each turn (a loop may append to it) -/
def Itl(K:aa)(a:Addr):It:=
 ⟨fun i H=>∃xs x,SqL K H a xs∧xs[i]? = some x,fun i H x H'=>H'=H∧∀xs,SqL K H a xs->xs[i]? = some x,fun i H=>∃xs,SqL K H a xs∧xs.length≤i⟩
def Itt(K:aa)(a:Addr):It:=
 ⟨fun i H=>∃xs x,SqT K H a xs∧xs[i]? = some x,fun i H x H'=>H'=H∧∀xs,SqT K H a xs->xs[i]? = some x,fun i H=>∃xs,SqT K H a xs∧xs.length≤i⟩
/-- lo,lo+1,.. (n of them) -/
def Itr(lo:Int)(n:Nat):It:=⟨fun i _=>i<n,fun i H x H'=>H'=H∧x = .int (lo+i),fun i _=>n≤i⟩
theorem y4u{P:dN}{w:dO}{K:aa}{tg:Expr}(a it:Addr):Turn P w K tg (Itl K a) [it] it (fun i h=>h.IsListIter it a i) where
 mem:=by simp
 obj:=fun i h st b hb=>by
  have e:b=it:=by simpa using hb
  subst e
  obtain⟨o,e,c,d⟩:=st
  exact⟨o,e,fun v z=>by rw[d]at z;cases z⟩
 keep:=fun i h h' st k=>st.at fun o e=>k it (by simp) o e
 item:=by
  intro X hP hw hK hc i pins s σ H E I hf st hg
  subst hP hw hK
  obtain⟨xs,x,hq,hx⟩:=hg
  obtain⟨its,rv,p,hz⟩:=I.list hq
  obtain⟨u,hu,ru⟩:=rv.get hx
  obtain⟨f0,f1,f2,f3,f4,f5⟩:=hf it (by simp)
  refine wpAny_pyNext_list_item st p.isList (x:=u) (by simpa using hu) fun h' st' sb=>?_
  have I1:Inv X pins σ H { s with heap:=h' }:=I.turned (t':=s.toks) (fun b o hb e=>(sb.2 b hb).trans e) f0 f1 f3 f4 f5
  obtain⟨o,e,c,d⟩:=id st'
  exact⟨u,rfl,go_of (s:={ s with heap:=h' }) e c d (by decide) ⟨x,H,I1,ru,⟨rfl,fun ys hy=>by rw[I.list_inj hy hq];exact hx⟩,st',fun b hb=>(hf b hb).1⟩⟩
 done:=by
  intro X hP hw hK hc i pins s σ H E I hf st hg
  subst hP hw hK
  obtain⟨xs,hq,hx⟩:=hg
  obtain⟨its,rv,p,hz⟩:=I.list hq
  obtain⟨f0,f1,f2,f3,f4,f5⟩:=hf it (by simp)
  have hl:=rv.length
  exact wpAny_pyNext_list_end (I.ok.hd hc) st p.isList (by simp;omega) fun h' eb=>⟨rfl,I.turned (t':=s.toks) (fun b o hb e=>eb b o hb e) f0 f1 f3 f4 f5⟩
 self:=fun _ _ _ _ _ st h=>wpAny_pyIter_listiter st h
theorem y0b{P:dN}{w:dO}{K:aa}{tg:Expr}(a it:Addr):Turn P w K tg (Itt K a) [it] it (fun i h=>h.IsTupleIter it a i) where
 mem:=by simp
 obj:=fun i h st b hb=>by
  have e:b=it:=by simpa using hb
  subst e
  obtain⟨o,e,c,d⟩:=st
  exact⟨o,e,fun v z=>by rw[d]at z;cases z⟩
 keep:=fun i h h' st k=>st.at fun o e=>k it (by simp) o e
 item:=by
  intro X hP hw hK hc i pins s σ H E I hf st hg
  subst hP hw hK
  obtain⟨xs,x,hq,hx⟩:=hg
  obtain⟨its,rv,p,hz⟩:=I.tuple hq
  obtain⟨u,hu,ru⟩:=rv.get hx
  obtain⟨f0,f1,f2,f3,f4,f5⟩:=hf it (by simp)
  refine wpAny_pyNext_tuple_item st (show s.heap.IsTuple a its.toArray from p) (x:=u) (by simpa using hu) fun h' st' sb=>?_
  have I1:Inv X pins σ H { s with heap:=h' }:=I.turned (t':=s.toks) (fun b o hb e=>(sb.2 b hb).trans e) f0 f1 f3 f4 f5
  obtain⟨o,e,c,d⟩:=id st'
  exact⟨u,rfl,go_of (s:={ s with heap:=h' }) e c d (by decide) ⟨x,H,I1,ru,⟨rfl,fun ys hy=>by rw[I.tuple_inj hy hq];exact hx⟩,st',fun b hb=>(hf b hb).1⟩⟩
 done:=by
  intro X hP hw hK hc i pins s σ H E I hf st hg
  subst hP hw hK
  obtain⟨xs,hq,hx⟩:=hg
  obtain⟨its,rv,p,hz⟩:=I.tuple hq
  obtain⟨f0,f1,f2,f3,f4,f5⟩:=hf it (by simp)
  have hl:=rv.length
  exact wpAny_pyNext_tuple_end (I.ok.hd hc) st (show s.heap.IsTuple a its.toArray from p) (by simp;omega) fun h' eb=>⟨rfl,I.turned (t':=s.toks) (fun b o hb e=>eb b o hb e) f0 f1 f3 f4 f5⟩
 self:=fun _ _ _ _ _ st h=>wpAny_pyIter_tupleiter st h
theorem z9X{P:dN}{w:dO}{K:aa}{tg:Expr}(it:Addr)(lo:Int)(n:Nat):Turn P w K tg (Itr lo n) [it] it (fun i h=>IsRangeIter h it (lo+(i:Nat)*1) ((n:Int) - (i:Nat)) 1) where
 mem:=by simp
 obj:=fun i h st b hb=>by
  have e:b=it:=by simpa using hb
  subst e
  exact⟨_,st,fun v z=>by
   have z':Data.fields _=Data.cell v:=z
   cases z'⟩
 keep:=fun i h h' st k=>k it (by simp) _ st
 item:=by
  intro X hP hw hK hc i pins s σ H E I hf st hg
  subst hP hw hK
  obtain⟨f0,f1,f2,f3,f4,f5⟩:=hf it (by simp)
  have W:=Walks.range (prog:=X.prog) (w:=X.w) (I.ok.hd hc) it lo 1 n
  refine W.item i s _ _ hg st fun v h' tk hv st' kk=>?_
  obtain⟨t,rfl⟩:=hv
  have I1:Inv X pins σ H { s with heap:=h',toks:=tk }:=I.turned (fun b o hb e=>kk b o (by simpa using hb) e) f0 f1 f3 f4 f5
  refine⟨_,rfl,go_of (s:={ s with heap:=h',toks:=tk }) (n := "range_iterator") st' rfl rfl (by decide) ⟨.int (lo+i),H,I1,⟨t,?_⟩,⟨rfl,rfl⟩,st',fun b hb=>(hf b hb).1⟩⟩
  rw[Int.mul_one]
 done:=by
  intro X hP hw hK hc i pins s σ H E I hf st hg
  subst hP hw hK
  obtain⟨f0,f1,f2,f3,f4,f5⟩:=hf it (by simp)
  exact wpAny_pyNext_range_end (I.ok.hd hc) st (by have:n≤i:=hg;omega) fun h' eb=>⟨rfl,I.turned (t':=s.toks) (fun b o hb e=>eb b o hb e) f0 f1 f3 f4 f5⟩
 self:=fun _ _ _ _ _ st h=>wpAny_pyIter_rangeiter st h
section
variable{X:Cx}{tg:Expr}
/-- a range object just made,walked -/
theorem z8Z{pins:List (Addr×Obj)}{σ:St}{H:Hp}{s:dw}{R:It->Hp->Prop}{E:Value->dw->Prop}{lo hi:Int}{t u v:Tok}{tk:Nat}(I:Inv X pins σ H s)(h1:-(2 ^ 62)≤lo)(h2:lo<2 ^ 62)(h3:-(2 ^ 62)≤hi)(h4:hi<2 ^ 62)
  (q:R (Itr lo (hi - lo).toNat) H):wpAny (model X.prog X.w) X.A (pyIter (.ref s.heap.objs.size)) (PIE X pins σ tg R) E { s with heap:=s.heap.push { cls:=.type "range",data:=.fields #[.int lo t,.int hi u,.int 1 v] },toks:=tk }:=by
 refine wpAny_pyIter_range (IsRange.new ..) (small_one h1 h2 h3 h4) ?_
 have I1:Inv X pins σ H { s with heap:=s.heap.push { cls:=.type "range",data:=.fields #[.int lo t,.int hi u,.int 1 v] },toks:=tk }:=I.kept fun b o e=>Heap.get?_push_of_some _ e
 refine⟨(s.heap.push { cls:=.type "range",data:=.fields #[.int lo t,.int hi u,.int 1 v] }).objs.size,[(s.heap.push { cls:=.type "range",data:=.fields #[.int lo t,.int hi u,.int 1 v] }).objs.size],_,_,H,rfl,
  I1.kept (t':=tk) fun b o e=>Heap.get?_push_of_some _ e,z9X _ lo (hi - lo).toNat,?_,fun b hb=>?_,q⟩
 ·have e1:lo+((0:Nat):Int)*1=lo:=by simp
  have e2:(((hi - lo).toNat:Nat):Int) - ((0:Nat):Int)=Builtin.Range.rangeSize lo hi 1:=by rw[rangeSize_one];split <;> omega
  show IsRangeIter _ _ (lo+((0:Nat):Int)*1) ((((hi - lo).toNat:Nat):Int) - ((0:Nat):Int)) 1
  rw[e1,e2]
  exact Heap.get?_push_size _ rfl
 ·have e:b=(s.heap.push { cls:=.type "range",data:=.fields #[.int lo t,.int hi u,.int 1 v] }).objs.size:=by simpa using hb
  subst e
  exact I1.fpOk (ak _) (I1.hok.fresh (ak _))
def iRng1(ta:TA):TI:=fun σ H R=>ta σ H fun vs H1=>∃j:Int,vs=[.int j]∧-(2 ^ 62)≤j∧j<2 ^ 62∧R (Itr 0 j.toNat) H1
def iRng2(ta:TA):TI:=fun σ H R=>ta σ H fun vs H1=>∃i j:Int,vs=[.int i,.int j]∧(-(2 ^ 62)≤i∧i<2 ^ 62∧-(2 ^ 62)≤j∧j<2 ^ 62)∧R (Itr i (j - i).toNat) H1
theorem z7t{a:Expr}{ta:TA}{p pos:Pos}(hg:Gl X "range")(hm:X.mg "range" = none)(ha:PA X [a] ta)(hs:starEach [a] X.env=[(false,eval a X.env)]:=by rfl):PI X tg (.Call (.Name "range" p) [a] [] pos) (iRng1 ta):=by
 intro pins s σ H R I h
 refine Call_ (z5x I hg hm boot_range (PyProof.Rows.callWith_type1 (thn (ha pos pins s σ H _ I h) fun us s1 ⟨vs,H1,I1,r1,q1⟩=>?_) hs rfl))
 obtain⟨j,e,q1,q2,q⟩:=q1
 subst e
 cases r1 with
 |cons r rr=>
  cases rr
  obtain⟨t,rfl⟩:=r
  exact call_range_1 (z8Z I1 (by omega) (by omega) q1 q2 (by simpa using q))
theorem y1y{a b:Expr}{ta:TA}{p pos:Pos}(hg:Gl X "range")(hm:X.mg "range" = none)(ha:PA X [a,b] ta)(hs:starEach [a,b] X.env=[(false,eval a X.env),(false,eval b X.env)]:=by rfl)(hs2:starEach [b] X.env=[(false,eval b X.env)]:=by rfl):
  PI X tg (.Call (.Name "range" p) [a,b] [] pos) (iRng2 ta):=by
 intro pins s σ H R I h
 refine Call_ (z5x I hg hm boot_range (PyProof.Rows.callWith_type1 (thn (ha pos pins s σ H _ I h) fun us s1 ⟨vs,H1,I1,r1,q1⟩=>?_) (by rw[hs,hs2]) (by rw[hs2];rfl)))
 obtain⟨i,j,e,⟨q1,q2,q3,q4⟩,q⟩:=q1
 subst e
 cases r1 with
 |cons r rr=>
  cases rr with
  |cons r' rr=>
   cases rr
   obtain⟨t,rfl⟩:=r
   obtain⟨t',rfl⟩:=r'
   exact call_range_2 (z8Z I1 q1 q2 q3 q4 q)

/-! ### for -/
/-- W: the invariant by the turn and a measure;N: what the body is to reach -/
def tFor(wi:TI)(g:TG)(tb:TS):TS:=fun D σ H=>wi σ H fun J H1=>∃W:Nat->Nat->St->Hp->Prop,(∃m,W 0 m σ H1)∧∀i m σ H,W i m σ H →
 (J.stop i H∧D.nx σ H)∨(J.go i H∧∃N:St->Hp->Prop,(∀σ' H',N σ' H'->∃m',m'<m∧W (i+1) m' σ' H')∧∀x H',J.yld i H x H'->g x σ H' fun σ2 H2=>tb { D with nx:=N,ct:=N,bk:=D.nx } σ2 H2)
/-- the records at fp as they stand -/
def z6I(fp:List Addr)(h:Heap):List (Addr×Obj):=fp.filterMap fun b=>(h.get? b).map fun o=>(b,o)
theorem z2W{fp:List Addr}{h:Heap}{b:Addr}{o:Obj}(hb:b∈fp)(e:h.get? b=some o):(b,o)∈z6I fp h:=dJ.mpr ⟨b,hb,by rw[e];rfl⟩
theorem y2h{fp:List Addr}{h:Heap}{p:Addr×Obj}(hp:p∈z6I fp h):p.1∈fp∧h.get? p.1=some p.2:=by
 obtain⟨b,hb,e⟩:=dJ.mp hp
 cases q:h.get? b with
 |none=>rw[q]at e;cases e
 |some o=>
  rw[q]at e
  have e':(b,o)=p:=Option.some.inj e
  subst e'
  exact⟨hb,q⟩
theorem Inv.pinned{pins:List (Addr×Obj)}{σ:St}{H:Hp}{s:dw}{fp:List Addr}(I:Inv X pins σ H s)(hf:∀b∈fp,z7x X pins H b)(ho:∀b∈fp,∃o,s.heap.get? b=some o∧∀v,o.data≠.cell v):Inv X (pins++z6I fp s.heap) σ H s:=
 I.pins_of fun p hp=>(aw.mp hp).elim (fun z=>I.pin p (au _ z)) fun z=>by
  obtain⟨hb,e⟩:=y2h z
  obtain⟨f0,f1,f2,_⟩:=hf p.1 hb
  obtain⟨o,e',d⟩:=ho p.1 hb
  rw[e]at e';cases e'
  exact⟨e,f0,f1,f2,d⟩
theorem Inv.unpinned{pins pl:List (Addr×Obj)}{σ:St}{H:Hp}{s:dw}(I:Inv X (pins++pl) σ H s):Inv X pins σ H s:=I.pins_of fun p hp=>I.pin p (au _ (bg _ hp))
theorem y1z{iter:Expr}{body:List Stmt}{wi:TI}{g:TG}{tb:TS}{pos:Pos}(hp:PassesOwn (model X.prog X.w) X.A X.env X.xe)(hc:X.calm=true)(hi:PI X tg iter wi)(hg:PG X tg g)(hb:PSs X body tb)
  (hs:∀x,foldedSetIterable iter X.env x=pure x:=by intro _;rfl):PS X (.For tg iter body [] pos) (tFor wi g tb):=by
 intro pins s σ H D I h
 refine wpAny_For (thn (hi pins s σ H _ I h) fun v s1 h1=>thn h1 fun itv s2 h2=>?_) hs
 obtain⟨it,fp,tn,J,H2,e,I2,T,st2,f2,W,⟨m0,w0⟩,turn⟩:=h2
 subst e
 -- what stays true of the iterator's objects through the loop
 have stat:∀{H':Hp},(∀b∈fp,H' b=none)->∀b∈fp,z7x X pins H' b:=fun hn b hb=>⟨hn b hb,(f2 b hb).2⟩
 refine codeAny_forLoop_any (fun n s'=>∃i σ' H',Inv X pins σ' H' s'∧tn i s'.heap∧(∀b∈fp,H' b=none)∧W i n σ' H') ?_ m0 ⟨0,σ,H2,I2,st2,fun b hb=>(f2 b hb).1,w0⟩
 rintro n s3 ⟨i,σ3,H3,I3,st3,fr3,w3⟩
 rcases turn i n σ3 H3 w3 with⟨stop,qn⟩ | ⟨go,N,hN,step⟩
 ·refine wpAny_passesOwn hp (thn (T.done X rfl rfl rfl hc i pins s3 σ3 H3 X.xe I3 (stat fr3) st3 stop) fun r s4 ⟨hr,I4⟩=>?_)
  subst hr
  exact wpAny_execs_nil ⟨σ3,H3,I4,qn⟩
 ·refine wpAny_passesOwn hp (thn (T.item X rfl rfl rfl hc i pins s3 σ3 H3 X.xe I3 (stat fr3) st3 go) fun r s4 ⟨u,hr,h4⟩=>?_)
  subst hr
  refine wpAny_passesOwn hp (thn h4 fun _ s5 ⟨x,H5,I5,r5,y5,st5,fr5⟩=>?_)
  have I5':=I5.pinned (stat fr5) (T.obj _ _ st5)
  refine wpAny_passesOwn hp (thn (hg _ s5 σ3 H5 x u _ I5' r5 (step x H5 y5)) fun _ s6 ⟨σ6,H6,I6,q6⟩=>?_)
  refine wpAny_passesOwn hp (thn (hb _ s6 σ6 H6 _ I6 q6) fun f s7 q7=>?_)
  have again:∀{σ7:St} {H7:Hp},Inv X (pins++z6I fp s5.heap) σ7 H7 s7->N σ7 H7->∃m,m<n∧∃i σ' H',Inv X pins σ' H' s7∧tn i s7.heap∧(∀b∈fp,H' b=none)∧W i m σ' H':=fun {σ7 H7} I7 n7=>by
   obtain⟨m',hm,w7⟩:=hN σ7 H7 n7
   refine⟨m',hm,i+1,σ7,H7,I7.unpinned,T.keep _ _ _ st5 fun b hb o e=>(I7.pin (b,o) (au _ (au _ (z2W hb e)))).1,fun b hb=>?_,w7⟩
   obtain⟨o,e,d⟩:=T.obj _ _ st5 b hb
   exact(I7.pin (b,o) (au _ (au _ (z2W hb e)))).2.1
  cases f with
  |next=>obtain⟨σ7,H7,I7,n7⟩:=q7;exact again I7 n7
  |cont=>obtain⟨σ7,H7,I7,n7⟩:=q7;exact again I7 n7
  |brk=>obtain⟨σ7,H7,I7,q7⟩:=q7;exact⟨σ7,H7,I7.unpinned,q7⟩
  |ret v=>obtain⟨x7,σ7,H7,I7,r7,q7⟩:=q7;exact⟨x7,σ7,H7,I7.unpinned,r7,q7⟩
end

/-! ### the forms one uses -/
/-- over a list that the body leaves as it is -/
theorem z6x{K:aa}{a:Addr}{xs:List V}{g:TG}{tb:TS}{D:Ends}{σ:St}{H:Hp}(Pv:Nat->St->Hp->Prop)(h0:Pv 0 σ H)(hl:∀i σ H,i≤xs.length->Pv i σ H->SqL K H a xs)
  (hs:∀i x σ H,xs[i]? = some x->Pv i σ H->g x σ H fun σ2 H2=>tb { D with nx:=Pv (i+1),ct:=Pv (i+1),bk:=D.nx } σ2 H2) (hd:∀σ H,Pv xs.length σ H->D.nx σ H):
  ∃W:Nat->Nat->St->Hp->Prop,(∃m,W 0 m σ H)∧∀i m σ H,W i m σ H →
   ((Itl K a).stop i H∧D.nx σ H)∨((Itl K a).go i H∧∃N:St->Hp->Prop,(∀σ' H',N σ' H'->∃m',m'<m∧W (i+1) m' σ' H')∧∀x H',(Itl K a).yld i H x H'->g x σ H' fun σ2 H2=>tb { D with nx:=N,ct:=N,bk:=D.nx } σ2 H2):=by
 refine⟨fun i m σ H=>m=xs.length - i∧i≤xs.length∧Pv i σ H,⟨xs.length,by simp,bn _,h0⟩,?_⟩
 rintro i m σ H ⟨rfl,hi,p⟩
 have q:=hl i σ H hi p
 by_cases hlt:i<xs.length
 ·refine .inr ⟨⟨xs,xs[i],q,by simp[hlt]⟩,Pv (i+1),fun σ' H' p'=>⟨xs.length - (i+1),by omega,rfl,hlt,p'⟩,fun x H' y=>?_⟩
  obtain⟨e,y⟩:=y
  subst e
  exact hs i x σ _ (y xs q) p
 ·have e:i=xs.length:=by omega
  subst e
  exact .inl ⟨⟨xs,q,ak _⟩,hd σ H p⟩

abbrev R2:=V->V->Hp->VK->Prop
/-- a two-place operation on values: f is binaryOp op,inplaceOp op or dX op -/
def OpR(X:Cx)(f:Value->Value->Sem Value)(r:R2):Prop:=
 ∀(pins:List (Addr×Obj)) (s:dw) (σ:St) (H:Hp) (x y:V) (v u:Value) (Q:VK),Inv X pins σ H s->RelV x v->RelV y u->r x y H Q →
  wpAny (model X.prog X.w) X.A (f v u) (EP X pins σ Q) X.xe s
/-- a one-place operation -/
def UnR(X:Cx)(f:Value->Sem Value)(r:V->Hp->VK->Prop):Prop:=
 ∀(pins:List (Addr×Obj)) (s:dw) (σ:St) (H:Hp) (x:V) (v:Value) (Q:VK),Inv X pins σ H s->RelV x v->r x H Q →
  wpAny (model X.prog X.w) X.A (f v) (EP X pins σ Q) X.xe s
/-- a call of a value that is known (a builtin,a type)with values -/
def CallR(X:Cx)(f:Value)(r:List V->Hp->VK->Prop):Prop:=
 ∀(pins:List (Addr×Obj)) (s:dw) (σ:St) (H:Hp) (xs:List V) (us:List Value) (Q:VK),Inv X pins σ H s->Vals xs us->r xs H Q →
  wpAny (model X.prog X.w) X.A (call f us) (EP X pins σ Q) X.xe s
/-- a value's truth -/
def TruR(X:Cx)(r:V->Hp->(Bool->Hp->Prop)->Prop):Prop:=
 ∀(pins:List (Addr×Obj)) (s:dw) (σ:St) (H:Hp) (x:V) (v:Value) (Q:Bool->Hp->Prop),Inv X pins σ H s->RelV x v->r x H Q →
  wpAny (model X.prog X.w) X.A (truthy v) (TP X pins σ Q) X.xe s

def tOp(r:R2)(ta tb:TE):TE:=fun σ H Q=>ta σ H fun x H1=>tb σ H1 fun y H2=>r x y H2 Q
def tUn(r:V->Hp->VK->Prop)(ta:TE):TE:=fun σ H Q=>ta σ H fun x H1=>r x H1 Q
/-- ints in,under C,and a value out -/
def rI(C:Int->Int->Prop)(g:Int->Int->V):R2:=fun x y H Q=>∃i j,x = .int i∧y = .int j∧C i j∧Q (g i j) H
def rI0(g:Int->Int->V):R2:=fun x y H Q=>∃i j,x = .int i∧y = .int j∧Q (g i j) H
def rU(g:Int->V):V->Hp->VK->Prop:=fun x H Q=>∃i,x = .int i∧Q (g i) H

section
variable{X:Cx}{a b:Expr}{ta tb:TE}{pos:Pos}

theorem binT(ha:PE X a ta)(hb:PE X b tb){pins:List (Addr×Obj)}{s:dw}{σ:St}{H:Hp}{R:V->V->Hp->Prop}(I:Inv X pins σ H s)
  (h:ta σ H fun x H1=>tb σ H1 fun y H2=>R x y H2) {Q:Value->dw->Prop} {f:Value->Value->Sem Value}
  (hf:∀v u s2 x y H2,Inv X pins σ H2 s2->RelV x v->RelV y u->R x y H2->wpAny (model X.prog X.w) X.A (f v u) Q X.xe s2):
  wpAny (model X.prog X.w) X.A (eval a X.env) (fun v s₁=>wpAny (model X.prog X.w) X.A (eval b X.env) (fun u s₂=>wpAny (model X.prog X.w) X.A (f v u) Q X.xe s₂) X.xe s₁) X.xe s:=by
 refine thn (ha pins s σ H _ I h) fun v s1 ⟨x,H1,I1,r1,q1⟩=>?_
 refine thn (hb pins s1 σ H1 _ I1 q1) fun u s2 ⟨y,H2,I2,r2,q2⟩=>?_
 exact hf v u s2 x y H2 I2 r1 r2 q2

theorem pe_op{op:Operator}{r:R2}(ho:OpR X (binaryOp op) r)(ha:PE X a ta)(hb:PE X b tb):PE X (.BinOp a op b pos) (tOp r ta tb):=by
 intro pins s σ H Q I h
 exact wpAny_BinOp (binT ha hb I h fun v u s2 x y H2 I2 rx ry q=>ho pins s2 σ H2 x y v u Q I2 rx ry q)
theorem pe_un{op:UnaryOp}{r:V->Hp->VK->Prop}(ho:UnR X (unaryOp op) r)(ha:PE X a ta):PE X (.UnaryOp op a pos) (tUn r ta):=by
 intro pins s σ H Q I h
 exact UnaryOp_ (thn (ha pins s σ H _ I h) fun v s1 ⟨x,H1,I1,r1,q1⟩=>ho pins s1 σ H1 x v Q I1 r1 q1)

/-! ### ints -/
theorem opI{f:Value->Value->Sem Value}{C:Int->Int->Prop}{g:Int->Int->Int}
  (rule:∀(i j:Int) (t u:Tok) (s:dw) (Q:Value->dw->Prop) (E:Value->dw->Prop),C i j->Q (.int (g i j) s.toks) { s with toks:=s.toks+1 }->wpAny (model X.prog X.w) X.A (f (.int i t) (.int j u)) Q E s):
  OpR X f (rI C fun i j=>.int (g i j)):=by
 intro pins s σ H x y v u Q I rx ry h
 obtain⟨i,j,rfl,rfl,hc,q⟩:=h
 obtain⟨t,rfl⟩:=rx
 obtain⟨t',rfl⟩:=ry
 exact rule i j t t' s _ _ hc ⟨.int (g i j),H,I.tok _,⟨_,rfl⟩,q⟩
theorem opI0{f:Value->Value->Sem Value}{g:Int->Int->Int}
  (rule:∀(i j:Int) (t u:Tok) (s:dw) (Q:Value->dw->Prop) (E:Value->dw->Prop),Q (.int (g i j) s.toks) { s with toks:=s.toks+1 }->wpAny (model X.prog X.w) X.A (f (.int i t) (.int j u)) Q E s):
  OpR X f (rI0 fun i j=>.int (g i j)):=by
 intro pins s σ H x y v u Q I rx ry h
 obtain⟨i,j,rfl,rfl,q⟩:=h
 obtain⟨t,rfl⟩:=rx
 obtain⟨t',rfl⟩:=ry
 exact rule i j t t' s _ _ ⟨.int (g i j),H,I.tok _,⟨_,rfl⟩,q⟩
theorem opB0{f:Value->Value->Sem Value}{g:Int->Int->Bool}
  (rule:∀(i j:Int) (t u:Tok) (s:dw) (Q:Value->dw->Prop) (E:Value->dw->Prop),Q (.bool (g i j)) s->wpAny (model X.prog X.w) X.A (f (.int i t) (.int j u)) Q E s):
  OpR X f (rI0 fun i j=>.bl (g i j)):=by
 intro pins s σ H x y v u Q I rx ry h
 obtain⟨i,j,rfl,rfl,q⟩:=h
 obtain⟨t,rfl⟩:=rx
 obtain⟨t',rfl⟩:=ry
 exact rule i j t t' s _ _ ⟨.bl (g i j),H,I,rfl,q⟩

def CDiv(i j:Int):Prop:=0<j∧j<1073741824
def CDivN(i j:Int):Prop:=j≠0∧j.natAbs<1073741824
def CPow(i j:Int):Prop:=0≤j∧j≤1000000∧i.natAbs<2 ^ 64
def CMul(i j:Int):Prop:=(-(2 ^ 64)<i∧i<2 ^ 64)∨(-(2 ^ 64)<j∧j<2 ^ 64)
theorem CMul.ok{i j:Int}(h:CMul i j):IntMulOk i j:=by
 rcases h with⟨h1,h2⟩ | ⟨h1,h2⟩
 ·exact .of_left (intBits_le_64 h1 h2)
 ·exact .of_right (intBits_le_64 h1 h2)

theorem op_add:OpR X (binaryOp .Add) (rI0 fun i j=>.int (i+j)):=opI0 fun _ _ _ _ _ _ _ q=>add_int q
theorem op_sub:OpR X (binaryOp .Sub) (rI0 fun i j=>.int (i - j)):=opI0 fun _ _ _ _ _ _ _ q=>sub_int q
theorem op_mul:OpR X (binaryOp .Mult) (rI CMul fun i j=>.int (i*j)):=opI fun _ _ _ _ _ _ _ hc q=>mul_int q hc.ok
/-- // by a positive divisor -/
theorem op_fdiv:OpR X (binaryOp .FloorDiv) (rI CDiv fun i j=>.int (i / j)):=opI fun i j _ _ _ _ _ hc q=>by
 have h1:(0:Int)<j:=hc.1
 have h2:j<1073741824:=hc.2
 exact floordiv_int (by omega) (by rw[Int.fdiv_eq_ediv_of_nonneg i (by omega)];exact q) (.inl (PyProof.noPylong_small (by omega)))
/-- % by a positive divisor of any size -/
theorem op_mod:OpR X (binaryOp .Mod) (rI (fun _ j=>0<j) fun i j=>.int (i % j)):=opI fun i j _ _ _ _ _ hc q=>by
 have h1:(0:Int)<j:=hc
 exact mod_int' (by omega) (by rw[Int.fmod_eq_emod_of_nonneg i (by omega)];exact q)


theorem unI{f:Value->Sem Value}{g:Int->Int}
  (rule:∀(i:Int) (t:Tok) (s:dw) (Q:Value->dw->Prop) (E:Value->dw->Prop),Q (.int (g i) s.toks) { s with toks:=s.toks+1 }->wpAny (model X.prog X.w) X.A (f (.int i t)) Q E s):
  UnR X f (rU fun i=>.int (g i)):=by
 intro pins s σ H x v Q I rx h
 obtain⟨i,rfl,q⟩:=h
 obtain⟨t,rfl⟩:=rx
 exact rule i t s _ _ ⟨.int (g i),H,I.tok _,⟨_,rfl⟩,q⟩
theorem un_neg:UnR X (unaryOp .USub) (rU fun i=>.int (-i)):=unI fun _ _ _ _ _ q=>neg_int q

/-! ### z2Z among ints: n += (a<b) -/
end

/-! ### comparisons -/


section
variable{X:Cx}{a b c:Expr}{ta tb tc:TE}{pos:Pos}

theorem op_lt:OpR X (dX .Lt) (rI0 fun i j=>.bl (decide (i<j))):=opB0 fun _ _ _ _ _ _ _ q=>lt_int q
theorem op_le:OpR X (dX .LtE) (rI0 fun i j=>.bl (decide (i≤j))):=opB0 fun _ _ _ _ _ _ _ q=>le_int q
theorem op_ge:OpR X (dX .GtE) (rI0 fun i j=>.bl (decide (j≤i))):=opB0 fun _ _ _ _ _ _ _ q=>ge_int q



/-- two rules for one operation: by cases -/
theorem OpR.or{f:Value->Value->Sem Value}{r r':R2}(h:OpR X f r)(h':OpR X f r'):OpR X f (fun x y H Q=>r x y H Q∨r' x y H Q):=by
 intro pins s σ H x y v u Q I rx ry q
 rcases q with q | q
 ·exact h pins s σ H x y v u Q I rx ry q
 ·exact h' pins s σ H x y v u Q I rx ry q

theorem z5s(b:Expr){op:CmpOp}(h:op≠.In:=by decide)(h2:op≠.NotIn:=by decide):dU op b=false:=by
 have e1:(op==CmpOp.In)=false:=by cases op <;> first | rfl | exact absurd rfl h
 have e2:(op==CmpOp.NotIn)=false:=by cases op <;> first | rfl | exact absurd rfl h2
 cases b <;> simp[dU,e1,e2]
/-- a comparison as a value;hm: z5s b,or (for in,not in) by with_unfolding_all rfl -/
theorem pe_cmpR{op:CmpOp}{r:R2}(ho:OpR X (dX op) r)(ha:PE X a ta)(hb:PE X b tb)(hm:dU op b=false):PE X (.Compare a [op] [b] pos) (tOp r ta tb):=by
 intro pins s σ H Q I h
 exact wpAny_Compare1 (binT ha hb I h fun v u s2 x y H2 I2 rx ry q=>ho pins s2 σ H2 x y v u Q I2 rx ry q) hm
/-- a reading of a value as a test -/
def tTest(t:TE):TT:=fun σ H Q=>t σ H fun x H'=>∃k,x = .bl k∧Q k H'
theorem pt_cmpR{op:CmpOp}{r:R2}(ho:OpR X (dX op) r)(ha:PE X a ta)(hb:PE X b tb)(hm:dU op b=false):PT X (.Compare a [op] [b] pos) (tTest (tOp r ta tb)):=by
 intro pins s σ H Q I h
 refine wpAny_isTrue_Compare1 (thn (ha pins s σ H _ I h) fun v s1 ⟨x,H1,I1,r1,q1⟩=>thn (hb pins s1 σ H1 _ I1 q1) fun u s2 ⟨y,H2,I2,r2,q2⟩=>
  thn (ho pins s2 σ H2 x y v u _ I2 r1 r2 q2) fun c s3 ⟨z,H3,I3,r3,k,e,q3⟩=>?_) hm
 subst e
 cases r3
 exact wpAny_truthy_bool ⟨H3,I3,q3⟩
/-- a op1 b op2 c -/
def y6H(r r':R2)(ta tb tc:TE):TE:=fun σ H Q=>ta σ H fun x H1=>tb σ H1 fun y H2=>r x y H2 fun z H3=>∃k,z = .bl k ∧
 (if k=true then tc σ H3 fun w' H4=>r' y w' H4 Q else Q (.bl false) H3)
theorem y4F{op op':CmpOp}{r r':R2}(ho:OpR X (dX op) r)(ho':OpR X (dX op') r')(ha:PE X a ta)(hb:PE X b tb)(hc:PE X c tc)
  (hm:lastMarks [op,op'] [b,c]=false:=by with_unfolding_all rfl):PE X (.Compare a [op,op'] [b,c] pos) (y6H r r' ta tb tc):=by
 intro pins s σ H Q I h
 refine Compare_chain (thn (ha pins s σ H _ I h) fun v s1 ⟨x,H1,I1,r1,q1⟩=>chain_link (thn (hb pins s1 σ H1 _ I1 q1) fun u s2 ⟨y,H2,I2,r2,q2⟩=>
  thn (ho pins s2 σ H2 x y v u _ I2 r1 r2 q2) fun d s3 ⟨z,H3,I3,r3,k,e,q3⟩=>?_)) hm
 subst e
 cases r3
 refine wpAny_truthy_bool ?_
 cases k with
 |false=>exact ite_ff ⟨.bl false,H3,I3,rfl,q3⟩
 |true=>exact ite_tt (chain_last (thn (hc pins s3 σ H3 _ I3 q3) fun w' s4 ⟨z',H4,I4,r4,q4⟩=>ho' pins s4 σ H4 y z' u w' Q I4 r2 r4 q4))

/-! ### truth -/
/-- a value's truth by the abstract heap -/
def TruV(K:aa)(x:V)(H:Hp)(k:Bool):Prop:=
 match x with
 |.non=>k=false
 |.bl b=>k=b
 |.int i=>k=(i != 0)
 |.str y=>y.length≤sizeLine∧k=((y.length:Int) != 0)
 |.byt y=>y.size≤sizeLine∧k=((y.size:Int) != 0)
 |.ref p=>(∃xs,SqL K H p xs∧k = !xs.isEmpty)∨(∃xs,SqT K H p xs∧k = !xs.isEmpty)∨∃kvs,H p=some (.dK kvs)∧k = !kvs.isEmpty
 |_=>False
theorem y0a{κ:Type}{kvs:List (κ×V)}{vs:List (κ×Value)}(r:KV kvs vs):(!vs.isEmpty) = !kvs.isEmpty:=by
 cases r <;> rfl
theorem z5n{xs:List V}{its:List Value}(r:Vals xs its):(!its.toArray.isEmpty) = !xs.isEmpty:=by
 cases r <;> simp
theorem z5y:(sizeLine:Nat)<2 ^ 63:=by rw[sizeLine_eq];decide
theorem tru_ok:TruR X (fun x H Q=>∃k,TruV X.K x H k∧Q k H):=by
 intro pins s σ H x v Q I rx h
 obtain⟨k,e,q⟩:=h
 have hl:=z5y
 have hs:sizeLine=16777216:=sizeLine_eq
 cases x with
 |non=>
  cases rx
  have e':k=false:=e
  subst e'
  exact truthy_none ⟨H,I,q⟩
 |bl b=>
  cases rx
  have e':k=b:=e
  subst e'
  exact wpAny_truthy_bool ⟨H,I,q⟩
 |int i=>
  obtain⟨t,rfl⟩:=rx
  have e':k=(i != 0):=e
  subst e'
  exact PySem.P.truthy_int ⟨H,I,q⟩
 |str y=>
  obtain⟨t,rfl⟩:=rx
  obtain⟨hy,e'⟩:y.length≤sizeLine∧k=((y.length:Int) != 0):=e
  subst e'
  exact PySem.P.truthy_str (by omega) ⟨H,I.tok _,q⟩
 |byt y=>
  obtain⟨t,rfl⟩:=rx
  obtain⟨hy,e'⟩:y.size≤sizeLine∧k=((y.size:Int) != 0):=e
  subst e'
  exact PySem.W.truthy_bytes (by omega) ⟨H,I.tok _,q⟩
 |ref p=>
  cases rx
  have e':(∃xs,SqL X.K H p xs∧k = !xs.isEmpty)∨(∃xs,SqT X.K H p xs∧k = !xs.isEmpty)∨∃kvs,H p=some (.dK kvs)∧k = !kvs.isEmpty:=e
  rcases e' with⟨xs,hx,e'⟩ | ⟨xs,hx,e'⟩ | ⟨kvs,hx,e'⟩
  ·subst e'
   obtain⟨its,r,pl,hz⟩:=I.list hx
   have hlen:=r.length
   exact wpAny_truthy_list pl.isList (by simp only[ai];omega) ⟨H,I.tok _,by rw[z5n r];exact q⟩
  ·subst e'
   obtain⟨its,r,pl,hz⟩:=I.tuple hx
   have hlen:=r.length
   exact truthy_tuple pl (by simp only[ai];omega) ⟨H,I.tok _,by rw[z5n r];exact q⟩
  ·subst e'
   obtain⟨hz,hS,vs,r,m⟩:kvs.length≤sizeLine∧(p==sysModules)=false∧∃vs,KV kvs vs∧s.heap.DictOf (z1h X.prog X.w) p vs:=I.hok p _ hx
   have hlen:kvs.length=vs.length:=Paired.length r
   exact wpAny_truthy_dict hS m (by omega) ⟨H,I.tok _,by rw[y0a r];exact q⟩
 |_=>exact(show False from e).elim
/-- any expression whose test is its value's truth (a name,a call,a subscript,a field ..: he by fun _=>rfl) -/
theorem y5d(ha:PE X a ta)(he:∀whole,isTrue a X.env whole=(do let v ←whole;standAt a.pos;holding [v] (truthy v))):
  PT X a (fun σ H Q=>ta σ H fun x H'=>∃k,TruV X.K x H' k∧Q k H'):=by
 intro pins s σ H Q I h
 exact isTrue_plain (thn (ha pins s σ H _ I h) fun v s1 ⟨x,H1,I1,r1,q1⟩=>tru_ok pins s1 σ H1 x v Q I1 r1 q1) (he _)

/-! ### strs and bytes -/


/-! ### scalar builtins,by CallR -/
theorem y4n{x:V}{us:List Value}(r:Vals [x] us):∃u,us=[u]∧RelV x u:=by
 cases r with
 |cons r1 r2=>cases r2;exact⟨_,rfl,r1⟩
theorem vals2{x y:V}{us:List Value}(r:Vals [x,y] us):∃u w',us=[u,w']∧RelV x u∧RelV y w':=by
 cases r with
 |cons r1 r2=>
  cases r2 with
  |cons r3 r4=>cases r4;exact⟨_,_,rfl,r1,r3⟩
theorem y1o(hc:X.calm=true):CallR X (.builtin "min") (fun xs H Q=>∃i j,xs=[.int i,.int j]∧Q (.int (if j<i then j else i)) H):=by
 intro pins s σ H xs us Q I r h
 obtain⟨i,j,rfl,q⟩:=h
 obtain⟨u,w',rfl,⟨t,rfl⟩,⟨t',rfl⟩⟩:=vals2 r
 refine min_two_ints (I.ok.hd hc) fun h' tk k=>⟨_,H,I.kept k,?_,q⟩
 by_cases hj:j<i
 ·rw[if_pos hj,if_pos hj];exact⟨_,rfl⟩
 ·rw[if_neg hj,if_neg hj];exact⟨_,rfl⟩
/-- len of a str,a bytes,a list,a tuple -/
def LenV(K:aa)(x:V)(H:Hp)(n:Nat):Prop:=
 match x with
 |.str y=>y.length≤sizeLine∧n=y.length
 |.byt y=>y.size≤sizeLine∧n=y.size
 |.ref p=>(∃xs,SqL K H p xs∧n=xs.length)∨∃xs,SqT K H p xs∧n=xs.length
 |_=>False
theorem y5G:CallR X (.builtin "len") (fun xs H Q=>∃x n,xs=[x]∧LenV X.K x H n∧Q (.int n) H):=by
 intro pins s σ H xs us Q I r h
 obtain⟨x,n,rfl,e,q⟩:=h
 obtain⟨u,rfl,rx⟩:=y4n r
 have hl:=z5y
 have hs:sizeLine=16777216:=sizeLine_eq
 cases x with
 |str y=>
  obtain⟨t,rfl⟩:=rx
  obtain⟨hy,e'⟩:y.length≤sizeLine∧n=y.length:=e
  subst e'
  exact len_str (by omega) ⟨.int _,H,I.tok _,⟨_,rfl⟩,q⟩
 |byt y=>
  obtain⟨t,rfl⟩:=rx
  obtain⟨hy,e'⟩:y.size≤sizeLine∧n=y.size:=e
  subst e'
  exact PySem.W.len_bytes (by omega) ⟨.int _,H,I.tok _,⟨_,rfl⟩,q⟩
 |ref p=>
  cases rx
  have e':(∃xs,SqL X.K H p xs∧n=xs.length)∨∃xs,SqT X.K H p xs∧n=xs.length:=e
  rcases e' with⟨xs,hx,e'⟩ | ⟨xs,hx,e'⟩
  ·subst e'
   obtain⟨its,r',pl,hz⟩:=I.list hx
   have hlen:=r'.length
   exact Calls.call_len_list pl.isList (by simp only[ai];omega) ⟨.int xs.length,H,I.tok _,⟨_,by simp only[ai];rw[hlen]⟩,q⟩
  ·subst e'
   obtain⟨its,r',pl,hz⟩:=I.tuple hx
   have hlen:=r'.length
   exact len_tuple pl (by simp only[ai];omega) ⟨.int xs.length,H,I.tok _,⟨_,by simp only[ai];rw[hlen]⟩,q⟩
 |_=>exact(show False from e).elim
end

/-! ### an instance,its attributes a map -/
structure ObjM(h:Heap)(x dx C:Addr)(mA:Str->Option Value):Prop where
 obj:h.get? x=some (bx C dx)
 ns:h.Ns1 dx mA
 ne:dx≠x

theorem y0D{h:Heap}{dx:Addr}{mA:Str->Option Value}(n:h.Ns1 dx mA):∃od,h.get? dx=some od∧∀name,cV name od=some (mA name):=by
 obtain⟨o,es,ep,ho,hd,hk,_,hm⟩:=n
 refine⟨o,ho,fun name=>?_⟩
 have e:=hm name
 unfold nsFind findBy at e
 rw[←Array.find?_toList]at e
 unfold cV
 rw[hd]
 dsimp only
 split
 ·rename_i y q
  rw[q]at e
  exact congrArg some e
 ·rename_i q
  rw[q]at e
  have a:es.toList.any (·.refKey)=false:=by
   rw[cP]
   intro y hy
   obtain⟨z,t,hkey⟩:=hk y (Array.mem_toList_iff.mp hy)
   simp[DictEntry.refKey,hkey]
  have a':¬ es.toList.any (·.refKey)=true:=by rw[a];exact aj
  rw[if_neg a']
  exact congrArg some e

theorem ObjM.look{h:Heap}{x dx C:Addr}{mA:Str->Option Value}(I:ObjM h x dx C mA):∃od,cz h x (bx C dx) C (some od)∧∀name,cV name od=some (mA name):=
 let⟨od,ho,hl⟩:=y0D I.ns
 ⟨od,⟨I.obj,rfl,rfl,ho⟩,hl⟩

section





end

/-! ### the attributes as a list of pairs -/


section
variable{P:dN}{w:dO}{H:Hp}{h:Heap}{a C dx:Addr}{fs:List (Str×V)}
theorem ins_get(hok:HOk P w H h)(e:H a=some (.ins C dx fs)):∃mA,ObjM h a dx C mA∧(∀f,RelO (fs.lookup f) (mA f))∧PySem.Within mA (fs.map (·.1))∧fs.length≤1000∧H dx=some (.own a):=by
 obtain⟨d,z,ne,ob,mA,n,r,q⟩:=(show ObjOk P w H h a (.ins C dx fs) from hok a _ e)
 exact⟨mA,⟨ob,n,ne⟩,r,q,z,d⟩
end

/-! ### what of the text a class must have -/
structure Cls(K:aa)(C:Addr):Prop where
 pg:cM K C Str.empty=true
 hd:dA K C=true
 po:dz K C=true
 sa:aC K (.ref C) "__setattr__" = some (some (.builtin "object.__setattr__"))
theorem Cls.get{K:aa}{C:Addr}(c:Cls K C)(f:Str):cM K C f=true:=c.pg
/-- no class of it has the name -/
def NoAttr(K:aa)(C:Addr)(f:Str):Prop:=aC K (.ref C) f=some none
/-- a constant of the class -/
structure Con(K:aa)(C:Addr)(f:Str)(v:V)(u:Value):Prop where
 at_:aC K (.ref C) f=some (some u)
 rel:RelV v u
 get:bE K u "__get__" = some none
 cp:PySem.W.copiedNames.contains f=false
/-- a method: a plain def of the class or of one above it -/
structure Meth(K:aa)(C:Addr)(m:Str)(f:Addr):Prop where
 at_:aC K (.ref C) m=some (some (.ref f))
 fn:PySem.W.isFn K (.ref f)=true
 kp:bj K (.ref f)=true

section
variable{X:Cx}{pins:List (Addr×Obj)}{σ:St}{H:Hp}{s:dw}{a C:Addr}





/-- a new instance,tracked,without attributes -/
theorem Inv.made(I:Inv X pins σ H s):Inv X pins σ (upd (upd H s.heap.objs.size (.own (s.heap.objs.size+1))) (s.heap.objs.size+1) (.ins C s.heap.objs.size []))
  { s with heap:=(s.heap.push bd).push (bx C s.heap.objs.size) }:=by
 have e1:(s.heap.push bd).get? s.heap.objs.size=some bd:=Heap.get?_push_size s.heap rfl
 have e2:((s.heap.push bd).push (bx C s.heap.objs.size)).get? (s.heap.objs.size+1)=some (bx C s.heap.objs.size):=by
  have:=Heap.get?_push_size (s.heap.push bd) (o:=bx C s.heap.objs.size) rfl
  rwa [Heap.size_push]at this
 have e3:(s.heap.push bd).Ns s.heap.objs.size (fun _=>none):=⟨bd,#[],_,e1,rfl,(fun e he=>absurd he (by simp)),fun _=>rfl⟩
 have I1:=I.laid (a:=s.heap.objs.size) (o:=.own (s.heap.objs.size+1)) (h':=s.heap.push bd) (t':=s.toks) (fun b u q=>Heap.get?_push_of_some _ q) (ak _) ⟨_,e1⟩
 refine I1.laid (a:=s.heap.objs.size+1) (o:=.ins C s.heap.objs.size []) (t':=s.toks) (fun b u q=>Heap.get?_push_of_some _ q) (Nat.le_of_eq (Heap.size_push _ _)) ?_
 have ne:s.heap.objs.size≠s.heap.objs.size+1:=ax (Nat.lt_succ_self _)
 refine⟨by rw[z0n ne,z0s],bn _,ne,e2,fun _=>none,(Heap.Ns1.of_empty e3).at fun o q=>Heap.get?_push_of_some _ q,fun _=>True.intro,fun y hy=>absurd rfl hy⟩

end

/-! ### readings and rules -/

section

end

/-! ### isinstance -/
section
variable{H:Hp}
/-- the type of a value,as the fragment's deciders take it;for an instance its class -/
inductive TyOf(K:aa)(H:Hp):V->Value->Prop where
 |non:TyOf K H .non (.type "NoneType")
 |bl (x:Bool):TyOf K H (.bl x) (.type "bool")
 |int (i:Int):TyOf K H (.int i) (.type "int")
 |str (x:Str):TyOf K H (.str x) (.type "str")
 |flt (x:UInt64):TyOf K H (.flt x) (.type "float")
 |lst {a:Addr} {xs:List V} (e:H a=some (.lst xs)):TyOf K H (.ref a) (.type "list")
 |frz {a:Addr} {o:Obj} {xs:List V} (e:H a=some (.frz o (.lst xs))):TyOf K H (.ref a) (.type "list")
 |tup {a:Addr} {xs:List V} (e:H a=some (.tup xs)):TyOf K H (.ref a) (.type "tuple")
 |dK {a:Addr} {kvs:List (Key×V)} (e:H a=some (.dK kvs)):TyOf K H (.ref a) (.type "dict")
 |dT {a:Addr} {kvs:List (List Key×V)} (e:H a=some (.dT kvs)):TyOf K H (.ref a) (.type "dict")
 |ins {a C dx:Addr} {fs:List (Str×V)} (e:H a=some (.ins C dx fs)) (cl:Cls K C) (ha:aC K (.ref C) "__class__" = some (some (.builtin "object.__class__")))
   (hn:bE K (.builtin "object.__class__") "__get__" = some (some (.builtin "getset_descriptor.__get__"))) (htk:bW K (.builtin "object.__class__")=some true)
   (hm:br K C (.type "object")=some true):TyOf K H (.ref a) (.ref C)
end

/-! ### room -/
structure Room(k:Nat)(A:Around):Prop where
 hd:A.handled=none
 dp:A.depth+3*k+5<recursionLimit
 un:A.units+16*k+200<cLine
theorem Room.mono{j k:Nat}{A:Around}(r:Room k A)(h:j≤k):Room j A:=⟨r.hd,by have:=r.dp;omega,by have:=r.un;omega⟩
theorem Room.deeper{k:Nat}{A:Around}(r:Room (k+1) A)(env:Env):Room k (A.deeper env):=
 ⟨r.hd,by have:=r.dp;show A.depth+1+3*k+5<_;omega,by have:=r.un;show A.units+3+16*k+200<_;omega⟩
theorem Room.in1{k:Nat}{A:Around}(r:Room (k+1) A):Room k A.in1:=
 ⟨r.hd,by have:=r.dp;show A.depth+3*k+5<_;omega,by have:=r.un;show A.units+1+16*k+200<_;omega⟩
theorem Room.depth{k:Nat}{A:Around}(r:Room k A):A.depth<recursionLimit:=by have:=r.dp;omega
theorem Room.units{k:Nat}{A:Around}(r:Room k A):A.units+64<cLine:=by have:=r.un;omega

/-! ### argument lists and displays -/
def tNil:TA:=fun _ H Q=>Q [] H
def tCons(ta:TE)(tr:TA):TA:=fun σ H Q=>ta σ H fun x H1=>tr σ H1 fun xs H2=>Q (x::xs) H2
section
variable{X:Cx}{e:Expr}{es:List Expr}{te:TE}{t:TA}{pos:Pos}
theorem pa_nil:PA X [] tNil:=fun _ _ _ _ H Q I h=>Calls.spliced_nil ⟨[],H,I,.nil,h⟩
theorem z1v(ha:PE X e te)(hr:PA X es t)(hs:starEach (e::es) X.env=(false,eval e X.env)::starEach es X.env:=by rfl):PA X (e::es) (tCons te t):=by
 intro pos pins s σ H Q I h
 rw[hs]
 show wpAny _ _ (spliced ((false,eval e X.env)::dY pos (starEach es X.env))) _ _ s
 refine Calls.spliced_cons (thn (ha pins s σ H _ I h) fun u s1 ⟨x,H1,I1,r1,q1⟩=>?_)
 exact thn (hr pos pins s1 σ H1 _ I1 q1) fun us s2 ⟨xs,H2,I2,r2,q2⟩=>⟨x::xs,H2,I2,.cons r1 r2,q2⟩

/-- a tuple,a list of written items -/
def tTup(t:TA):TE:=fun σ H Q=>t σ H fun xs H1=>xs.length≤sizeLine∧∀p,H1 p=none->Q (.ref p) (upd H1 p (.tup xs))
def tLst(t:TA):TE:=fun σ H Q=>t σ H fun xs H1=>xs.length≤sizeLine∧∀p,H1 p=none->Q (.ref p) (upd H1 p (.lst xs))
theorem pe_tup{x1}(h:PA X es t):PE X (.Tuple es x1 pos) (tTup t):=by
 intro pins s σ H Q I hq
 refine wpAny_Tuple_spliced (thn (h pos pins s σ H _ I hq) fun us s1 ⟨xs,H1,I1,r,z,q⟩=>⟨by rw[←r.length];exact z,?_⟩)
 have hf:H1 s1.heap.objs.size=none:=I1.hok.fresh (ak _)
 refine⟨.ref s1.heap.objs.size,upd H1 s1.heap.objs.size (.tup xs),I1.laid (t':=s1.toks) (fun b u e=>Heap.get?_push_of_some _ e) (ak _) ?_,rfl,q _ hf⟩
 exact⟨z,us,r,TupN.new _ _⟩
theorem y3Q(h:PA X es t):PE X (.List es pos) (tLst t):=by
 intro pins s σ H Q I hq
 refine wpAny_List_spliced (thn (h pos pins s σ H _ I hq) fun us s1 ⟨xs,H1,I1,r,z,q⟩=>⟨by rw[←r.length];exact z,?_⟩)
 have hf:H1 s1.heap.objs.size=none:=I1.hok.fresh (ak _)
 refine⟨.ref s1.heap.objs.size,upd H1 s1.heap.objs.size (.lst xs),I1.laid (t':=s1.toks) (fun b u e=>Heap.get?_push_of_some _ e) (ak _) ?_,rfl,q _ hf⟩
 exact⟨z,us,0,r,Heap.get?_push_size _ rfl⟩
end

/-! ### what a def promises -/
/-- a def's promise: the bound arguments in the parameters' order,the heap,the wanted end,the wanted exception -/
abbrev Sp:=List V->Hp->VK->XK->Prop
/-- how an exception lies behind a call (file 08 gives it): the callers' frames,abstract heap and state ahead of the call,the wish,the exception,the state -/
abbrev CXT:=List Env->Hp->dw->XK->Value->dw->Prop

/-- the state at a call -/
structure Env0(P:dN)(w:dO)(K:aa)(mg:Str->Option Value)(base:Heap)(A:Around)(outer:List Env)(s:dw)(H:Hp):Prop where
 frames:A.frames=some outer
 mod:Mod K mg base
 bs:∀b o,base.get? b=some o->s.heap.get? b=some o∧H b=none
 bsz:base.objs.size≤s.heap.objs.size
 funs:s.heap.FunFrames base outer
 frf:∀b∈frs outer,H b=none
 hok:HOk P w H s.heap
 bare:AllBare s.gens
/-- a call's end -/
def CE(outer:List Env)(P:dN)(w:dO)(H:Hp)(s:dw)(Q:VK)(u:Value)(s':dw):Prop:=
 ∃v H',s'.os=s.os∧AllBare s'.gens∧Un (frs outer) [] H H' s.heap s'.heap∧HOk P w H' s'.heap∧RelV v u∧Q v H'
def CR(CX:CXT)(outer:List Env)(P:dN)(w:dO)(H:Hp)(s:dw)(Q:VK)(E:XK)(r:Result)(s':dw):Prop:=
 match r with
 |.ok (.ret u)=>CE outer P w H s Q u s'
 |.ok _=>False
 |.error e=>CX outer H s E e s'
structure FnOk(P:dN)(w:dO)(K:aa)(mg:Str->Option Value)(base:Heap)(CX:CXT)(k:Nat)(f:Addr)(fd:dP)(ps:List Str)(sp:Sp):Prop where
 len:∀vs H Q E,sp vs H Q E->vs.length=ps.length
 run:∀(A:Around) (outer:List Env) (s:dw) (H:Hp) (args:Args) (us:List Value) (vs:List V) (Q:VK) (E:XK),Room k A->Env0 P w K mg base A outer s H->BindsTo s fd args (ps.zip us)->Vals vs us->sp vs H Q E →
  codeAny (model P w) A (.call (.ref f) args) (CR CX outer P w H s Q E) s
theorem FnOk.mono{P:dN}{w:dO}{K:aa}{mg:Str->Option Value}{base:Heap}{CX:CXT}{j k:Nat}{f:Addr}{fd:dP}{ps:List Str}{sp:Sp}(F:FnOk P w K mg base CX j f fd ps sp)(h:j≤k):
  FnOk P w K mg base CX k f fd ps sp:=⟨F.len,fun A outer s H args us vs Q E hr=>F.run A outer s H args us vs Q E (hr.mono h)⟩
/-- a weaker promise -/
theorem FnOk.imp{P:dN}{w:dO}{K:aa}{mg:Str->Option Value}{base:Heap}{CX:CXT}{k:Nat}{f:Addr}{fd:dP}{ps:List Str}{sp sp':Sp}(F:FnOk P w K mg base CX k f fd ps sp)
  (h:∀vs H Q E,sp' vs H Q E->sp vs H Q E):FnOk P w K mg base CX k f fd ps sp':=
 ⟨fun vs H Q E q=>F.len vs H Q E (h _ _ _ _ q),fun A outer s H args us vs Q E hr he hb hv hs=>F.run A outer s H args us vs Q E hr he hb hv (h _ _ _ _ hs)⟩

theorem Env0.in1{P:dN}{w:dO}{K:aa}{mg:Str->Option Value}{base:Heap}{A:Around}{outer:List Env}{s:dw}{H:Hp}(e:Env0 P w K mg base A outer s H):
  Env0 P w K mg base A.in1 outer s H:=⟨e.frames,e.mod,e.bs,e.bsz,e.funs,e.frf,e.hok,e.bare⟩

section
variable{X:Cx}{pins:List (Addr×Obj)}{σ:St}{H:Hp}{s s':dw}
/-- from a body: what a callee wants -/
theorem Inv.env0(I:Inv X pins σ H s):Env0 X.prog X.w X.K X.mg X.base X.A X.stack s H:=
 ⟨I.ok.frames,I.ok.mod,I.bs,aR I.ok.bsz I.sz,I.stack,I.stkFree,I.hok,I.bare⟩
/-- behind a call -/
theorem Inv.after{Q:VK}{u:Value}(I:Inv X pins σ H s)(h:CE X.stack X.prog X.w H s Q u s'):EP X pins σ Q u s':=by
 obtain⟨v,H',os,bare,un,hok,r,q⟩:=h
 obtain⟨hh,g,d,t,os'⟩:=s'
 obtain rfl:os'=s.os:=os
 exact⟨v,H',I.call (h':=hh) (g':=g) (d':=d) (t':=t) (ch:=[]) un hok bare (fun b z=>absurd z (by simp)),r,q⟩
end

/-! ### calls -/
/-- f(..): the written arguments,then the defaults dvs;E: what is wanted of an exception -/
def tCall(sp:Sp)(dvs:List V)(E:XK)(t:TA):TE:=fun σ H Q=>t σ H fun vs H1=>sp (vs++dvs) H1 Q E

/-- how the parameters are bound: us the positional arguments,kw the keywords' values by name,ds the defaults that fill up -/
def Binds(K:aa)(fd:dP)(ps:List Str)(ds:List Value):Prop:=
 ∀(s:dw) (us:List Value),K.In s.heap->(us++ds).length=ps.length->BindsTo s fd ⟨us,[]⟩ (ps.zip (us++ds))
/-- every parameter is given -/
theorem Binds.all{K:aa}{fd:dP}{ps:List Str}(h:∀us:List Value,us.length=ps.length->bindArgs fd ⟨us,[]⟩=pure (ps.zip us)):Binds K fd ps []:=fun s us _ hl=>by
 rw[aG]at hl ⊢
 exact .of_eq (h us hl)

/-- an exception of a callee reaches what this body wants of exceptions -/
def y4h(CX:CXT)(X:Cx)(E:XK):Prop:=∀(pins:List (Addr×Obj)) (σ:St) (H:Hp) (s:dw) (e:Value) (s':dw),Inv X pins σ H s->CX X.stack H s E e s'->X.xe e s'

section
variable{X:Cx}{CX:CXT}{k:Nat}{f C:Addr}{fd:dP}{ps:List Str}{sp:Sp}{dvs:List V}{ds:List Value}{E:XK}{x:Str}{p pos:Pos}{e:Expr}{es:List Expr}{t:TA}

/-- the callee runs -/
theorem run_fn{pins:List (Addr×Obj)}{σ:St}{H:Hp}{s:dw}{Q:VK}{us:List Value}{vs:List V}(F:FnOk X.prog X.w X.K X.mg X.base CX k f fd ps sp)(hr:Room k X.A)(hb:Binds X.K fd ps ds)(hd:Vals dvs ds)(hx:y4h CX X E)
  (I:Inv X pins σ H s) (r:Vals vs us) (h:sp (vs++dvs) H Q E):wpAny (model X.prog X.w) X.A (call (.ref f) us) (EP X pins σ Q) X.xe s:=by
 have r2:Vals (vs++dvs) (us++ds):=r.append hd
 have hl:(us++ds).length=ps.length:=by rw[←r2.length];exact F.len _ _ _ _ h
 refine wpAny_call (codeAny_mono (F.run X.A X.stack s H ⟨us,[]⟩ (us++ds) (vs++dvs) Q E hr I.env0 (hb s us I.kIn hl) r2 h) fun r s' hq=>?_)
 cases r with
 |error e=>exact hx pins σ H s e s' I hq
 |ok fl=>
  cases fl with
  |ret u=>exact I.after hq
  |next=>exact False.elim hq
  |brk=>exact False.elim hq
  |cont=>exact False.elim hq

theorem pe_call(F:FnOk X.prog X.w X.K X.mg X.base CX k f fd ps sp)(hr:Room k X.A)(hg:Gl X x)(hm:X.mg x=some (.ref f))(hk:bj X.K (.ref f)=true)(hb:Binds X.K fd ps ds)(hd:Vals dvs ds)(hx:y4h CX X E)
  (ha:PA X (e::es) t) (hdb:(x==("__debug__" : Str))=false:=by decide) (he:starEach (e::es) X.env=(false,eval e X.env)::starEach es X.env:=by rfl) (hpl:(dY pos (starEach es X.env)).any (·.1)=false:=by rfl):
  PE X (.Call (.Name x p) (e::es) [] pos) (tCall sp dvs E t):=by
 intro pins s σ H Q I h
 refine wpAny_Call_Name_kw (z8b I hg hm ?_ hdb)
 refine dm (h₀:=X.base) I.ok.mod.kin hk (thn (ha pos pins s σ H _ I h) fun us s1 ⟨vs,H1,I1,r,q⟩=>⟨I1.kIn,?_⟩) he hpl
 exact run_fn F hr hb hd hx I1 r q


/-- what a class must have to be made -/
structure Mk(K:aa)(C f:Addr):Prop where
 makes:PySem.W.makesIn K C=true
 init:aC K (.ref C) "__init__" = some (some (.ref f))
 fn:PySem.W.isFn K (.ref f)=true
 kp:bj K (.ref C)=true

end

/-! ### keywords -/
section
variable{fd:dP}{ps ks:List Str}

/-- how a call with keywords binds: g puts the positional values us and the keywords' values ws (names ks) in the parameters' order,defaults among them -/
structure KBinds(K:aa)(fd:dP)(ps ks:List Str)(g:List Value->List Value->List Value)(gV:List V->List V->List V):Prop where
 to:∀(s:dw) (us ws:List Value),K.In s.heap->(g us ws).length=ps.length->BindsTo s fd ⟨us,ks.zip ws⟩ (ps.zip (g us ws))
 rel:∀{vs:List V} {us:List Value} {zs:List V} {ws:List Value},Vals vs us->Vals zs ws->Vals (gV vs zs) (g us ws)
end

/-! ### a def's body keeps its promise -/
/-- names: the parameters first -/
structure FnScope(N P:List Str)(sc:d5):Prop where
 kind:sc.kind = .function
 co:sc.isCoroutine=false
 gen:sc.isGenerator=false
 nd:N.Nodup
 pre:N.take P.length=P
 par:∀x∈P,sc.names.lookup x=some .local∨sc.names.lookup x=some .cell
 nofree:∀y∈sc.names,y.2≠.free

theorem z6Z{kindOf:Str->Option NameKind}{x:Str}:∀{binds:List (Str×Value)} {m:Str->Option Value},(∀v,(x,v)∉binds)->bindL kindOf binds m x=m x
 |[],_,_=>rfl
 | (n,v)::r,m,h=>by
  unfold bindL
  rw[z6Z fun w hw=>h w (ac _ hw)]
  split
  ·have:x≠n:=by rintro rfl;exact h v ag
   simp[this]
  ·rfl
theorem z7o{kindOf:Str->Option NameKind}{x:Str}:∀{binds:List (Str×Value)} {m:Str->Option Value},(∀v,(x,v)∉binds)->bindC kindOf binds m x=m x
 |[],_,_=>rfl
 | (n,v)::r,m,h=>by
  unfold bindC
  rw[z7o fun w hw=>h w (ac _ hw)]
  split
  ·rfl
  ·have:x≠n:=by rintro rfl;exact h v ag
   simp[this]
theorem z6G{kindOf:Str->Option NameKind}{x:Str}{v:Value}:∀{P:List Str} {vs:List Value} {i:Nat} {m:Str->Option Value},P.Nodup->P[i]? = some x->vs[i]? = some v->kindOf x=some .local →
  bindL kindOf (P.zip vs) m x=some v
 |[],_,_,_,_,h,_,_=>by simp at h
 |_::_,[],_,_,_,_,h,_=>by simp at h
 |p::P,w::vs,0,m,nd,h1,h2,hk=>by
  simp at h1 h2;subst h1;subst h2
  show bindL kindOf ((p,w)::P.zip vs) m p=_
  unfold bindL
  rw[z6Z fun v hv=>(am.mp nd).1 (cW hv).1,if_pos hk]
  simp
 |p::P,w::vs,i+1,m,nd,h1,h2,hk=>by
  show bindL kindOf ((p,w)::P.zip vs) m x=_
  unfold bindL
  exact z6G (i:=i) (am.mp nd).2 (by simpa using h1) (by simpa using h2) hk
theorem z6K{kindOf:Str->Option NameKind}{x:Str}{v:Value}:∀{P:List Str} {vs:List Value} {i:Nat} {m:Str->Option Value},P.Nodup->P[i]? = some x->vs[i]? = some v->kindOf x≠some .local →
  bindC kindOf (P.zip vs) m x=some v
 |[],_,_,_,_,h,_,_=>by simp at h
 |_::_,[],_,_,_,_,h,_=>by simp at h
 |p::P,w::vs,0,m,nd,h1,h2,hk=>by
  simp at h1 h2;subst h1;subst h2
  show bindC kindOf ((p,w)::P.zip vs) m p=_
  unfold bindC
  rw[z7o fun v hv=>(am.mp nd).1 (cW hv).1,if_neg hk]
  simp
 |p::P,w::vs,i+1,m,nd,h1,h2,hk=>by
  show bindC kindOf ((p,w)::P.zip vs) m x=_
  unfold bindC
  exact z6K (i:=i) (am.mp nd).2 (by simpa using h1) (by simpa using h2) hk

/-- the names' values at the entry -/
def z4b(N:List Str)(vs:List V):St:=vs.map some++ad (N.length - vs.length) none

/-- the context of a def's body,at its entry;an exception leaves the frame,then lies as CX says -/
def z8G(CX:CXT)(P:dN)(w:dO)(K:aa)(mg:Str->Option Value)(base:Heap)(N:List Str)(qual:Str)(scope:d5)(f:Addr)(cd:Value)(A:Around)(outer:List Env)(s:dw)(H:Hp)(E:XK):Cx where
 prog:=P
 w:=w
 K:=K
 mg:=mg
 base:=base
 A:=A.deeper (envOfC qual scope s.heap.objs.size f cd)
 N:=N
 s₀:=s
 H₀:=H
 env:=envOfC qual scope s.heap.objs.size f cd
 outer:=outer
 stack:=envOfC qual scope s.heap.objs.size f cd::outer
 ex:=[]
 calm:=true
 fn:=fun _=>true
 pn:=[]
 xe:=fun e s'=>wpAny (model P w) (A.deeper (envOfC qual scope s.heap.objs.size f cd)) (leaving (envOfC qual scope s.heap.objs.size f cd) e) (fun _ s''=>CX outer H s E e s'') (fun e' s''=>CX outer H s E e' s'') s'

theorem z9m{sc:d5}{n:Nat}{x:Str}(h:sc.names.lookup x=some .cell):∃c,(dR n sc.names []).lookup x=some c:=by
 have q:=db sc.names n [] (.inl h)
 exact ca.mp q

theorem y3z{CX:CXT}{P:dN}{w:dO}{K:aa}{mg:Str->Option Value}{base:Heap}{N ps:List Str}{qual:Str}{scope:d5}{f:Addr}{cd:Value}{A:Around}{outer:List Env}{s s1:dw}{H:Hp}{E:XK}{us:List Value}{vs:List V}
  (S:FnScope N ps scope) (hd:A.handled=none) (e0:Env0 P w K mg base A outer s H) (hl:vs.length=ps.length) (r:Vals vs us)
  (x:InCallC s s.heap.objs.size (bindL (envOfC qual scope s.heap.objs.size f cd).kindOf (ps.zip us) fun _=>none) (dR (s.heap.objs.size+1) scope.names []) (bindC (envOfC qual scope s.heap.objs.size f cd).kindOf (ps.zip us) fun _=>none) s1):
  Inv (z8G CX P w K mg base N qual scope f cd A outer s H E) [] (z4b N vs) H s1:=by
 have hpl:ps.length≤N.length:=by have:=congrArg List.length S.pre;rw[cq]at this;omega
 obtain⟨h1,tk,rfl,hk⟩:=x.done
 have noA:∀b:Addr,b∉(z8G CX P w K mg base N qual scope f cd A outer s H E).ex:=fun b z=>absurd (show b∈([]:List Addr) from z) (by simp)
 refine⟨⟨e0.mod,S.kind,rfl,rfl,ak _,fun y z c h1 h2=>?_,fun y hy=>?_,fun y c _ h=>?_,fun _=>hd,Around.frames_deeper e0.frames,.inr ⟨rfl,rfl⟩,fun b z=>absurd z (noA b),e0.bs,e0.bsz,fun b _ _=>noA b,fun b z=>absurd z (noA b),e0.funs,e0.frf⟩,
  rfl,e0.bare,Un.kept hk,⟨_,x.toInCall.ns,fun i y v h1 h2 h3=>?_⟩,fun y c h=>⟨_,x.cell y c h⟩,e0.hok.fresh (ak _),fun y c h=>?_,fun p hp=>absurd (show p∈([]:List (Addr×Obj)) from hp) (by simp),e0.hok.kept hk,?_⟩
 ·exact name_of_addr x.apart (PySem.mem_of_lookup h1) (PySem.mem_of_lookup h2)
 ·have hy:scope.names.lookup y=some .cell∨scope.names.lookup y=some .free:=hy
  rcases hy with hy | hy
  ·exact z9m hy
  ·exact absurd rfl (S.nofree _ (PySem.mem_of_lookup hy))
 ·exact b6 (x.above y c (PySem.mem_of_lookup h))
 ·have hi:i<vs.length:=by
   unfold z4b at h2
   by_cases hi:i<vs.length
   ·exact hi
   ·rw[bp (by simpa using hi)]at h2
    rw[bw]at h2
    split at h2 <;> cases h2
  have ha:vs[i]? = some v:=by
   unfold z4b at h2
   rw[aN (by simpa using hi),aL]at h2
   cases e:vs[i]? with
   |none=>rw[e]at h2;cases h2
   |some a=>rw[e]at h2;cases h2;rfl
  obtain⟨u,hu,rv⟩:=r.get ha
  have hp:ps[i]? = some y:=by
   rw[←S.pre,List.getElem?_take_of_lt (by omega)];exact h1
  have ndP:ps.Nodup:=by rw[←S.pre];exact S.nd.sublist (List.take_sublist _ _)
  refine⟨u,rv,?_⟩
  rcases S.par y (cF hp)with k | k
  ·exact .inl ⟨k,z6G ndP hp hu k⟩
  ·obtain⟨c,e⟩:=z9m (n:=s.heap.objs.size+1) k
   refine .inr ⟨.inl k,c,e,?_⟩
   have q:=x.cell y c e
   rw[z6K ndP hp hu (by show scope.names.lookup y≠_;rw[k];decide)]at q
   exact q
 ·exact e0.hok.fresh (b6 (x.above y c (PySem.mem_of_lookup h)))
 ·unfold z4b
  show _=N.length
  rw[av,ah,du]
  omega

/-- THE RULE: a def (or a method) of the text,by its body. The body's reading t is chosen for each entry;it is run at the parameters' values -/
theorem fn_of{CX:CXT}{P:dN}{w:dO}{K:aa}{mg:Str->Option Value}{base:Heap}{k:Nat}{f:Addr}{name qual:Str}{params:Arguments}{body:List Stmt}{scope:d5}{dV kV doc pm cdv ct oc:Value}{an od:Option Addr}
  {osl:Array (Option Value)} {N ps:List Str} {sp:Sp} (lk:K.lookup f=some ⟨oc,od,.func (aZ name qual params body scope dV kV doc pm an cdv ct),osl⟩) (hcd:cy K cdv qual=true) (S:FnScope N ps scope)
  (len:∀vs H Q E,sp vs H Q E->vs.length=ps.length)
  (hbody:∀(A:Around) (outer:List Env) (s:dw) (H:Hp) (vs:List V) (Q:VK) (E:XK),Room k (A.deeper (envOfC qual scope s.heap.objs.size f cdv))->sp vs H Q E →
   ∃t,PSs (z8G CX P w K mg base N qual scope f cdv A outer s H E) body t∧t { nx:=fun _ H'=>Q .non H',rt:=Q } (z4b N vs) H):
  FnOk P w K mg base CX (k+1) f (aZ name qual params body scope dV kV doc pm an cdv ct) ps sp:=by
 refine⟨len,fun A outer s H args us vs Q E hr e0 hb r hsp=>?_⟩
 have hl:=len _ _ _ _ hsp
 have KX:K.In s.heap:=e0.mod.kin.keeps fun b o e=>(e0.bs b o e).1
 have lim:s.heap.NoLimit:=e0.mod.nolimit.keeps fun b o e=>(e0.bs b o e).1
 have hkind:∀y∈ps.zip us,scope.names.lookup y.1=some .local∨(scope.names.lookup y.1=some .cell∧((dR (s.heap.objs.size+1) scope.names []).lookup y.1).isSome=true):=fun⟨n,v⟩ hy=>by
  rcases S.par n (cW hy).1 with q | q
  ·exact .inl q
  ·exact .inr ⟨q,db _ _ _ (.inl q)⟩
 refine codeAny_call_function hr.depth (KX _ _ lk) rfl S.co S.gen rfl (PySem.W.codeRec_of KX hcd) (hb _ _ _ _ ?_)
 refine wpAny_newFunctionEnv_cells S.kind hkind fun env he s1 x=>?_
 subst he
 refine⟨lim.keeps x.toInCall.keep,codeAny_func ?_⟩
 obtain⟨t,ht,hq⟩:=hbody A outer s H vs Q E (hr.deeper _) hsp
 have I:Inv (z8G CX P w K mg base N qual scope f cdv A outer s H E) [] (z4b N vs) H s1:=y3z S hr.hd e0 hl r x
 refine wpAny_mono (ht [] s1 (z4b N vs) H _ I hq) (fun fl s' hs=>?_) fun e s' hs=>hs
 have fin:∀{σ':St} {H':Hp} {v:V} {u:Value},Inv (z8G CX P w K mg base N qual scope f cdv A outer s H E) [] σ' H' s'->RelV v u->Q v H'->CE outer P w H s Q u s':=
  fun {σ' H' v u} J rv q=>⟨v,H',J.os,J.bare,J.base,J.hok,rv,q⟩
 cases fl with
 |ret u=>
  obtain⟨v,σ',H',J,rv,q⟩:=hs
  exact fin J rv q
 |next=>
  obtain⟨σ',H',J,q⟩:=hs
  exact fin (v:=V.non) (u:=Value.none) J rfl q
 |brk=>
  obtain⟨_,_,_,q⟩:=hs
  exact False.elim q
 |cont=>
  obtain⟨_,_,_,q⟩:=hs
  exact False.elim q
section
variable{X:Cx}{x:Str}{p pos:Pos}{e:Expr}{es:List Expr}{t:TA}{id T:String}{r:List V->Hp->VK->Prop}

def tCB(r:List V->Hp->VK->Prop)(t:TA):TE:=fun σ H Q=>t σ H fun vs H1=>r vs H1 Q
/-- f(e,..),f a built-in function -/
theorem z6e(hc:CallR X (.builtin id) r)(hg:Gl X x)(hm:X.mg x=none)(hv:dZ x=some (.builtin id))(ha:PA X (e::es) t)(hn:x ≠ "__name__" := by decide)(hdb:(x==("__debug__" : Str))=false:=by decide)
  (he:starEach (e::es) X.env=(false,eval e X.env)::starEach es X.env:=by rfl) (hpl:(dY pos (starEach es X.env)).any (·.1)=false:=by rfl):PE X (.Call (.Name x p) (e::es) [] pos) (tCB r t):=by
 intro pins s σ H Q I h
 refine wpAny_Call_Name_kw (z5x I hg hm hv ?_ hn hdb)
 exact PyProof.Rows.callWith_builtin1 (thn (ha pos pins s σ H _ I h) fun us s1 ⟨vs,H1,I1,r1,q1⟩=>hc pins s1 σ H1 vs us Q I1 r1 q1) he hpl
/-- T(e,..),T a built-in type -/
theorem y2M(hc:CallR X (.type T) r)(hg:Gl X x)(hm:X.mg x=none)(hv:dZ x=some (.type T))(ha:PA X (e::es) t)(hn:x ≠ "__name__" := by decide)(hdb:(x==("__debug__" : Str))=false:=by decide)
  (he:starEach (e::es) X.env=(false,eval e X.env)::starEach es X.env:=by rfl) (hpl:(dY pos (starEach es X.env)).any (·.1)=false:=by rfl):PE X (.Call (.Name x p) (e::es) [] pos) (tCB r t):=by
 intro pins s σ H Q I h
 refine wpAny_Call_Name_kw (z5x I hg hm hv ?_ hn hdb)
 exact PyProof.Rows.callWith_type1 (thn (ha pos pins s σ H _ I h) fun us s1 ⟨vs,H1,I1,r1,q1⟩=>hc pins s1 σ H1 vs us Q I1 r1 q1) he hpl
end
end L2

namespace HT
open PySem PyProof.Rows



section
open PySem.SeqAt
open PySem.AutoSeq1 (wpAny_loadPart')
open PySem.MeetsSeq PySem.MeetsSeq2 PySem.MeetsSeq3

end

section



/-! ### t[a:b],not the whole -/
/-- a slice's bound as a place among n (d where it is left out) -/
def sIx(n d:Nat):Option Int->Nat
 |none=>d
 |some v=>if v<0 then(v+(n:Int)).toNat else min v.toNat n

end
end HT

namespace L2
open PySem PySem.Spec PyProof.Rows

/-! ### the parts of a slice -/
abbrev TO:=St->Hp->(Option Int->Hp->Prop)->Prop
/-- a slice's part (left out,or an int) -/
def PO(X:Cx)(e:Option Expr)(t:TO):Prop:=
 ∀(pins:List (Addr×Obj)) (s:dw) (σ:St) (H:Hp) (Q:Option Int->Hp->Prop),Inv X pins σ H s->t σ H Q →
  wpAny (model X.prog X.w) X.A (evalPart e X.env) (fun u s'=>∃o H',Inv X pins σ H' s'∧IsPart u o∧Q o H') X.xe s
def tNoPart:TO:=fun _ H Q=>Q none H
def tPart(t:TE):TO:=fun σ H Q=>t σ H fun x H1=>∃i,x = .int i∧Q (some i) H1


section
variable{X:Cx}{e:Expr}{te:TE}{lo hi:Option Expr}{tl th:TO}{pos p2:Pos}

theorem po_none:PO X none tNoPart:=by
 intro pins s σ H Q I h
 rw[evalPart_none]
 exact wpAny_pure ⟨none,H,I,.none,h⟩
theorem y1l(h:PE X e te):PO X (some e) (tPart te):=by
 intro pins s σ H Q I hw
 rw[evalPart_some]
 refine thn (h pins s σ H _ I hw) fun u s1 ⟨x,H1,I1,r1,q1⟩=>?_
 obtain⟨i,rfl,q⟩:=q1
 obtain⟨t,rfl⟩:=r1
 exact⟨some i,H1,I1,.int i t,q⟩

/-- what a slice of a value is,by values: the slice object stands at sl -/
def SlR(X:Cx)(r:V->Option Int->Option Int->Hp->VK->Prop):Prop:=
 ∀(pins:List (Addr×Obj)) (s:dw) (σ:St) (H:Hp) (x:V) (v vl vu:Value) (lo hi:Option Int) (sl:Addr) (Q:VK),Inv X pins σ H s->RelV x v->s.heap.IsSliceOf sl vl vu .none->IsPart vl lo->IsPart vu hi->r x lo hi H Q →
  ∃T id,typeLookup (.type T) "__getitem__" = pure (some (.builtin id))∧s.TypeIs v T∧wpAny (model X.prog X.w) X.A (getItem v (.ref sl)) (EP X pins σ Q) X.xe s
theorem SlR.or{r r':V->Option Int->Option Int->Hp->VK->Prop}(h:SlR X r)(h':SlR X r'):SlR X (fun x lo hi H Q=>r x lo hi H Q∨r' x lo hi H Q):=by
 intro pins s σ H x v vl vu lo hi sl Q I rx hs pl pu q
 rcases q with q | q
 ·exact h pins s σ H x v vl vu lo hi sl Q I rx hs pl pu q
 ·exact h' pins s σ H x v vl vu lo hi sl Q I rx hs pl pu q
def tSl(r:V->Option Int->Option Int->Hp->VK->Prop)(te:TE)(tl th:TO):TE:=fun σ H Q=>te σ H fun x H1=>tl σ H1 fun l H2=>th σ H2 fun u H3=>r x l u H3 Q
/-- a[lo:hi],any a -/
theorem y4M{r:V->Option Int->Option Int->Hp->VK->Prop}(hr:SlR X r)(he:PE X e te)(hl:PO X lo tl)(hu:PO X hi th):PE X (.Subscript e (.Slice lo hi none p2) pos) (tSl r te tl th):=by
 intro pins s σ H Q I h
 refine Subscript_ (thn (he pins s σ H _ I h) fun v s1 ⟨x,H1,I1,r1,q1⟩=>?_)
 refine wpAny_Slice (thn (hl pins s1 σ H1 _ I1 q1) fun vl s2 ⟨l,H2,I2,pl,q2⟩=>thn (hu pins s2 σ H2 _ I2 q2) fun vu s3 ⟨u,H3,I3,pu,q3⟩=>?_)
 rw[evalPart_none]
 refine wpAny_pure ?_
 have I4:Inv X pins σ H3 { s3 with heap:=s3.heap.push { cls:=.type "slice",data:=.fields #[vl,vu,.none] } }:=I3.kept (t':=s3.toks) fun b ob q=>Heap.get?_push_of_some _ q
 obtain⟨T,id,hT,ht,hg⟩:=hr pins { s3 with heap:=s3.heap.push { cls:=.type "slice",data:=.fields #[vl,vu,.none] } } σ H3 x v vl vu l u s3.heap.objs.size Q I4 r1 (Heap.IsSliceOf.new ..) pl pu q3
 show wpAny (model X.prog X.w) X.A (subscriptTail e (.Slice lo hi none p2) v (.ref s3.heap.objs.size)) (EP X pins σ Q) X.xe { s3 with heap:=s3.heap.push { cls:=.type "slice",data:=.fields #[vl,vu,.none] } }
 exact tail_any (ops:=[.ref s3.heap.objs.size,v]) ht hT hg (by with_unfolding_all rfl)

/-- the items of xs[lo:hi] -/
def cutV(xs:List V)(lo hi:Option Int):List V:=(xs.drop (HT.sIx xs.length 0 lo)).take (HT.sIx xs.length xs.length hi - HT.sIx xs.length 0 lo)
theorem z7L(xs:List V)(lo hi:Option Int):(cutV xs lo hi).length≤xs.length:=by
 unfold cutV
 rw[cq,cr]
 omega

/-! ### t<u,t+u -/
end

/-! ### places -/
/-- the place that an index of any sign means -/
def ixN(n:Nat)(i:Int):Option Nat:=if 0≤i then(if i<n then some i.toNat else none)else if -(n:Int)≤i then some (i+n).toNat else none
def atI{α:Type}(xs:List α)(i:Int):Option α:=(ixN xs.length i).bind fun j=>xs[j]?
theorem y1N{n:Nat}{i:Int}{j:Nat}(h:ixN n i=some j):seqIndex? i n=some j∧j<n∧-(n:Int)≤i∧i<n:=by
 unfold ixN at h
 by_cases h0:0≤i
 ·rw[if_pos h0]at h
  by_cases h1:i<n
  ·rw[if_pos h1]at h
   have e:i.toNat=j:=Option.some.inj h
   exact⟨by rw[seqIndex_of h0 h1,e],by omega,by omega,h1⟩
  ·rw[if_neg h1]at h;cases h
 ·rw[if_neg h0]at h
  by_cases h1:-(n:Int)≤i
  ·rw[if_pos h1]at h
   have e:(i+n).toNat=j:=Option.some.inj h
   exact⟨by rw[seqIndex_neg (by omega) h1,e],by omega,h1,by omega⟩
  ·rw[if_neg h1]at h;cases h
theorem z8c{α:Type}{xs:List α}{i:Int}{v:α}(h:atI xs i=some v):∃j,seqIndex? i xs.length=some j∧xs[j]? = some v∧j<xs.length∧-(xs.length:Int)≤i∧i<xs.length:=by
 unfold atI at h
 cases e:ixN xs.length i with
 |none=>rw[e]at h;cases h
 |some j=>
  rw[e]at h
  obtain⟨h1,h2,h3,h4⟩:=y1N e
  exact⟨j,h1,h,h2,h3,h4⟩
theorem z4Z{α:Type}{xs:List α}{j:Nat}{v:α}(h:xs[j]? = some v):atI xs (j:Int)=some v:=by
 have hj:j<xs.length:=(aV.mp h).1
 have e:ixN xs.length (j:Int)=some j:=by
  unfold ixN
  rw[if_pos (by omega),if_pos (by omega)];simp
 unfold atI;rw[e];exact h

/-! ### what may be subscripted -/
/-- what stands as an index of a plain subscript -/
def z4q(b:Expr):Prop:=∀o i,subscripted b false o i=operate [o,i] (getItem o i)
/-- a subscript by values -/
def IxR(X:Cx)(r:R2):Prop:=
 ∀(value slice:Expr) (pins:List (Addr×Obj)) (s:dw) (σ:St) (H:Hp) (x y:V) (v u:Value) (Q:VK),Inv X pins σ H s->RelV x v->RelV y u->r x y H Q →
  subscripted slice false v u=operate [v,u] (getItem v u)->wpAny (model X.prog X.w) X.A (subscriptTail value slice v u) (EP X pins σ Q) X.xe s
/-- a call of a builtin's method by values: the receiver,the arguments -/
def MtR(X:Cx)(id:String)(r:V->List V->Hp->VK->Prop):Prop:=
 ∀(pins:List (Addr×Obj)) (s:dw) (σ:St) (H:Hp) (x:V) (xs:List V) (v:Value) (us:List Value) (Q:VK),Inv X pins σ H s->RelV x v->Vals xs us->r x xs H Q →
  wpAny (model X.prog X.w) X.A (call (.builtin id) (v::us)) (EP X pins σ Q) X.xe s
section
variable{X:Cx}{a b:Expr}{ta tb:TE}{pos:Pos}
theorem IxR.or{r r':R2}(h:IxR X r)(h':IxR X r'):IxR X (fun x y H Q=>r x y H Q∨r' x y H Q):=by
 intro value slice pins s σ H x y v u Q I rx ry q hs
 rcases q with q | q
 ·exact h value slice pins s σ H x y v u Q I rx ry q hs
 ·exact h' value slice pins s σ H x y v u Q I rx ry q hs
theorem MtR.or{id:String}{r r':V->List V->Hp->VK->Prop}(h:MtR X id r)(h':MtR X id r'):MtR X id (fun x xs H Q=>r x xs H Q∨r' x xs H Q):=by
 intro pins s σ H x xs v us Q I rx rs q
 rcases q with q | q
 ·exact h pins s σ H x xs v us Q I rx rs q
 ·exact h' pins s σ H x xs v us Q I rx rs q
/-- a[b] -/
theorem y4W{r:R2}(hr:IxR X r)(ha:PE X a ta)(hb:PE X b tb)(hs:z4q b):PE X (.Subscript a b pos) (tOp r ta tb):=by
 intro pins s σ H Q I h
 exact Subscript_ (binT ha hb I h fun v u s2 x y H2 I2 rx ry q=>hr a b pins s2 σ H2 x y v u Q I2 rx ry q (hs _ _))

def rIxL(K:aa):R2:=fun x y H Q=>∃p xs i v,x = .ref p∧y = .int i∧SqL K H p xs∧atI xs i=some v∧Q v H
def rIxT(K:aa):R2:=fun x y H Q=>∃p xs i v,x = .ref p∧y = .int i∧SqT K H p xs∧atI xs i=some v∧Q v H
def rIxS:R2:=fun x y H Q=>∃z i c,x = .str z∧y = .int i∧z.length≤sizeLine∧atI z.cps.toList i=some c∧Q (.str ⟨#[c]⟩) H
theorem ix_list:IxR X (rIxL X.K):=by
 intro value slice pins s σ H x y v u Q I rx ry h hs
 obtain⟨p,xs,i,z,rfl,rfl,hq,he,q⟩:=h
 cases rx
 obtain⟨t,rfl⟩:=ry
 obtain⟨its,r,pl,hz⟩:=I.list hq
 obtain⟨j,h1,h2,h3,h4,h5⟩:=z8c he
 obtain⟨w,ew,rw'⟩:=r.get h2
 have hl:=r.length
 have hn:=z5y
 have fin:EP X pins σ Q w s:=⟨z,H,I,rw',q⟩
 by_cases h0:0≤i
 ·have hj:i.toNat=j:=by
   rw[seqIndex_of h0 h5]at h1
   exact Option.some.inj h1
  exact item_listR pl.isList h0 (by omega) (by rw[hj];simpa using ew) fin hs
 ·have hj:(i+(its.toArray.size:Int)).toNat=j:=by
   rw[seqIndex_neg (by omega) h4]at h1
   rw[ai,←hl]
   exact Option.some.inj h1
  exact subscriptTail_builtinR (x:=w) pl.isList.typeIs slot_list_getitem.lookup
   (wpAny_getItem_list_neg (Q:=fun r s'=>r=w∧EP X pins σ Q r s') pl.isList (by omega) (by rw[ai] <;> omega) (by omega) (by rw[hj];simpa using ew) ⟨rfl,fin⟩) hs
theorem ix_tup:IxR X (rIxT X.K):=by
 intro value slice pins s σ H x y v u Q I rx ry h hs
 obtain⟨p,xs,i,z,rfl,rfl,hq,he,q⟩:=h
 cases rx
 obtain⟨t,rfl⟩:=ry
 obtain⟨its,r,pl,hz⟩:=I.tuple hq
 obtain⟨j,h1,h2,h3,h4,h5⟩:=z8c he
 obtain⟨w,ew,rw'⟩:=r.get h2
 have hl:=r.length
 have hn:=z5y
 have fin:EP X pins σ Q w s:=⟨z,H,I,rw',q⟩
 exact subscriptTail_builtinR (x:=w) pl.typeIs slot_tuple_getitem.lookup
  (getItem_tuple (j:=j) (Q:=fun r s'=>r=w∧EP X pins σ Q r s') pl (by omega) (by omega) (by rw[ai,←hl];exact h1) (by simpa using ew) ⟨rfl,fin⟩) hs
theorem ix_str:IxR X rIxS:=by
 intro value slice pins s σ H x y v u Q I rx ry h hs
 obtain⟨z,i,c,rfl,rfl,hz,he,q⟩:=h
 obtain⟨t,rfl⟩:=rx
 obtain⟨t',rfl⟩:=ry
 obtain⟨j,h1,h2,h3,h4,h5⟩:=z8c he
 have hl:z.cps.toList.length=z.length:=by simp[Str.length]
 rw[hl]at h1 h4 h5
 have hn:=z5y
 exact tail_any (typeIs_str s z t) slot_str_getitem.lookup (getItem_str (c:=c) (by
  have e1:decide (i < -(2 ^ 63:Int))=false:=decide_eq_false (by omega)
  have e2:decide (i ≥ 2 ^ 63)=false:=decide_eq_false (by omega)
  rw[e1,e2,Bool.or_false]) (by rw[h1];simpa using h2) ⟨.str ⟨#[c]⟩,H,I.tok _,⟨_,rfl⟩,q⟩) hs
/-- list,tuple or str -/
def rIx(K:aa):R2:=fun x y H Q=>rIxL K x y H Q∨rIxT K x y H Q∨rIxS x y H Q
theorem ix_seq:IxR X (rIx X.K):=ix_list.or (ix_tup.or ix_str)

/-! ### xs[i]=v,any sign -/
/-- the list's object behind a store -/
theorem z9Z(its:List Value)(n j:Nat)(u:Value):Obj.mapSeq (·.setIfInBounds j u) { cls:=.type "list",data:=.seq its.toArray n } = { cls:=.type "list",data:=.seq (its.set j u).toArray n }:=by
 simp[Obj.mapSeq]
theorem Inv.lst{pins:List (Addr×Obj)}{σ:St}{H:Hp}{s:dw}{p:Addr}{xs:List V}(I:Inv X pins σ H s)(h:H p=some (.lst xs)):
  ∃(its:List Value) (n:Nat),Vals xs its∧s.heap.get? p=some { cls:=.type "list",data:=.seq its.toArray n }∧xs.length≤sizeLine:=by
 obtain⟨z,its,n,r,e⟩:=I.hok p _ h
 exact⟨its,n,r,e,z⟩
/-- the list at p is written by an update of its object -/
theorem Inv.lstUpd{pins:List (Addr×Obj)}{σ:St}{H:Hp}{s:dw}{p:Addr}{xs ys:List V}{its its':List Value}{n n':Nat}{f:Obj->Obj}(I:Inv X pins σ H s)(h:H p=some (.lst xs))
  (ho:s.heap.get? p=some { cls:=.type "list",data:=.seq its.toArray n }) (hf:f { cls:=.type "list",data:=.seq its.toArray n } = { cls:=.type "list",data:=.seq its'.toArray n' }) (r:Vals ys its') (hz:ys.length≤sizeLine) (t:Nat):
  Inv X pins σ (upd H p (.lst ys)) { s with heap:=s.heap.update p f,toks:=t }:=by
 have e:(s.heap.update p f).get? p=some { cls:=.type "list",data:=.seq its'.toArray n' }:=by
  rw[Heap.get?_update_self f ho (by rw[hf] <;> rfl),hf]
 refine I.write (x:=p) (e:=p) (by rw[h];trivial) (.inl rfl) (fun b u hb q=>(Heap.get?_update_other _ _ (Ne.symm hb)).trans q) ⟨_,e⟩ ?_
 exact⟨hz,its',n',r,e⟩
def rSetL:V->V->V->Hp->(Hp->Prop)->Prop:=fun o i v H Q=>∃p xs k j,o = .ref p∧i = .int k∧H p=some (.lst xs)∧ixN xs.length k=some j∧Q (upd H p (.lst (xs.set j v)))
theorem z6n:PSet X rSetL:=by
 intro pins s σ H o i v ov iv u Q I ro ri rv h
 obtain⟨p,xs,k,j,rfl,rfl,hp,hj,q⟩:=h
 cases ro
 obtain⟨t,rfl⟩:=ri
 obtain⟨its,n,r,ho,hz⟩:=I.lst hp
 obtain⟨h1,h2,h3,h4⟩:=y1N hj
 have hl:=r.length
 have hn:=z5y
 have I':Inv X pins σ (upd H p (.lst (xs.set j v))) { s with heap:=s.heap.update p (Obj.mapSeq (·.setIfInBounds j u)) }:=
  I.lstUpd hp ho (z9Z its n j u) (r.set rv j) (by rw[bF];exact hz) s.toks
 by_cases h0:0≤k
 ·have hk:k.toNat=j:=by
   rw[seqIndex_of h0 h4]at h1
   exact Option.some.inj h1
  exact PySem.W.ki_setAt ho h0 (by omega) (by rw[ai,←hl];exact h4) (by rw[hk];exact⟨_,I',q⟩)
 ·have hk:(k+(its.toArray.size:Int)).toNat=j:=by
   rw[seqIndex_neg (by omega) h3]at h1
   rw[ai,←hl]
   exact Option.some.inj h1
  exact PySem.W.ki_setBack ho (by omega) (by rw[ai,←hl];exact h3) (by omega) (by rw[hk];exact⟨_,I',q⟩)

/-! ### slices -/
theorem z6T(lo hi:Option Int)(n:Nat):(sliceBounds lo hi none n).1=((HT.sIx n 0 lo:Nat):Int)∧(sliceBounds lo hi none n).2.1=((HT.sIx n n hi:Nat):Int)∧(sliceBounds lo hi none n).2.2=1:=by
 refine⟨?_,?_,rfl⟩
 ·cases lo with
  |none=>simp[sliceBounds,HT.sIx]
  |some i=>
   simp only[sliceBounds,HT.sIx,dI,show(1:Int)>0 by decide,if_true]
   by_cases h:i<0
   ·simp only[h,if_true] <;> omega
   ·simp only[h,if_false] <;> omega
 ·cases hi with
  |none=>simp[sliceBounds,HT.sIx]
  |some i=>
   simp only[sliceBounds,HT.sIx,dI,show(1:Int)>0 by decide,if_true]
   by_cases h:i<0
   ·simp only[h,if_true] <;> omega
   ·simp only[h,if_false] <;> omega
theorem z6l(its:List Value)(lo hi:Option Int):slicePick its.toArray lo hi none=((its.drop (HT.sIx its.length 0 lo)).take (HT.sIx its.length its.length hi - HT.sIx its.length 0 lo)).toArray:=by
 obtain⟨h1,h2,h3⟩:=z6T lo hi its.toArray.size
 unfold slicePick
 rw[h1,h2,h3]
 simp only[sliceRange_one,pick_run,ai] <;> rfl
/-- xs[lo:hi] of a list: a new list -/
def rSlL(K:aa):V->Option Int->Option Int->Hp->VK->Prop:=fun x lo hi H Q=>∃a xs,x = .ref a∧SqL K H a xs∧∀p,H p=none->Q (.ref p) (upd H p (.lst (cutV xs lo hi)))
theorem sl_list:SlR X (rSlL X.K):=by
 intro pins s σ H x v vl vu lo hi sl Q I rx hs pl pu h
 obtain⟨a,xs,rfl,hx,q⟩:=h
 cases rx
 obtain⟨its,r,ht,hz⟩:=I.list hx
 have hlen:=r.length
 refine⟨"list",_,slot_list_getitem.lookup,ht.isList.typeIs,?_⟩
 refine wpAny_getItem_list_slice ht.isList hs pl pu .none (by simp) ?_ (by rw[ai] <;> omega)
 rw[z6l,←hlen]
 refine⟨.ref s.heap.objs.size,_,I.laid (t':=s.toks) (o:=.lst (cutV xs lo hi)) (fun b ob q=>Heap.get?_push_of_some _ q) (ak _) ?_,rfl,q _ (I.hok.fresh (ak _))⟩
 exact⟨aR (z7L xs lo hi) hz,_,0,(r.drop (HT.sIx xs.length 0 lo)).take (HT.sIx xs.length xs.length hi - HT.sIx xs.length 0 lo),Heap.get?_push_size _ rfl⟩

/-! ### in,not in: flat items -/

/-! ### len,list(x),tuple(x) of any list or tuple that is read -/
theorem CallR.or{f:Value}{r r':List V->Hp->VK->Prop}(h:CallR X f r)(h':CallR X f r'):CallR X f (fun xs H Q=>r xs H Q∨r' xs H Q):=by
 intro pins s σ H xs us Q I rs q
 rcases q with q | q
 ·exact h pins s σ H xs us Q I rs q
 ·exact h' pins s σ H xs us Q I rs q
theorem z7g:CallR X (.type "list") (fun xs H Q=>∃p ys,xs=[.ref p]∧(SqL X.K H p ys∨SqT X.K H p ys)∧∀l,H l=none->Q (.ref l) (upd H l (.lst ys))):=by
 intro pins s σ H xs us Q I r h
 obtain⟨p,ys,rfl,hq,q⟩:=h
 obtain⟨u,rfl,rx⟩:=y4n r
 cases rx
 have fin:∀(its:List Value),Vals ys its->ys.length≤sizeLine->∀(h':Heap) (c':Nat),(∀b o',s.heap.get? b=some o'->h'.get? b=some o') →
   h'.get? s.heap.objs.size=some { cls:=.type "list",dict:=none,data:=.seq its.toArray c',slots:=#[] }->EP X pins σ Q (.ref s.heap.objs.size) { s with heap:=h' }:=fun its r' hz h' c' kp e=>
  ⟨.ref s.heap.objs.size,_,I.laid (t':=s.toks) kp (ak _) (show ObjOk X.prog X.w _ h' _ (.lst ys) from⟨hz,its,c',r',e⟩),rfl,q _ (I.hok.fresh (ak _))⟩
 rcases hq with hq | hq
 ·obtain⟨its,r',pl,hz⟩:=I.list hq
  have hlen:=r'.length
  obtain⟨o,ho,hc,n,hd⟩:=pl.isList
  exact call_list_seq p (.inl rfl) ho hc hd (fun h' c' kp e=>fin its r' hz h' c' kp e) (by simp only[ai] <;> omega)
 ·obtain⟨its,r',pl,hz⟩:=I.tuple hq
  have hlen:=r'.length
  obtain⟨o,ho,hc,n,hd⟩:=pl
  exact call_list_seq p (.inr rfl) ho hc hd (fun h' c' kp e=>fin its r' hz h' c' kp e) (by simp only[ai] <;> omega)

/-! ### the call of a builtin's method: o.m(..) -/
/-- the value is of that builtin type -/
def tyV(K:aa)(T:String)(x:V)(H:Hp):Prop:=match x with
 |.str _=>T = "str"
 |.int _=>T = "int"
 |.ref p=>(T = "list" ∧ ∃xs,SqL K H p xs)∨(T = "tuple" ∧ ∃o,K.lookup p=some o∧o.cls = .type "tuple" ∧ o.dict=none) ∨
   (T = "dict" ∧ ((∃kvs,H p=some (.dK kvs))∨∃kvs,H p=some (.dT kvs)))∨(T = "set" ∧ ∃S n,H p=some (.set S n))
 |_=>False
theorem y7q{pins:List (Addr×Obj)}{σ:St}{H:Hp}{s:dw}{T:String}{x:V}{v:Value}(I:Inv X pins σ H s)(r:RelV x v)(ty:tyV X.K T x H):
  s.TypeIs v T∧∀a,v = .ref a->∃ob,s.heap.get? a=some ob∧ob.dict=none:=by
 cases x with
 |str z=>
  obtain⟨t,rfl⟩:=r
  cases (show T = "str" from ty)
  exact⟨typeIs_str s z t,fun _ e=>nomatch e⟩
 |int i=>
  obtain⟨t,rfl⟩:=r
  cases (show T = "int" from ty)
  exact⟨typeIs_int s i t,fun _ e=>nomatch e⟩
 |ref p=>
  cases r
  rcases ty with⟨rfl,xs,hq⟩ | ⟨rfl,o,hk,hc,hd⟩ | ⟨rfl,hk⟩ | ⟨rfl,S,n,hk⟩
  ·obtain⟨its,_,pl,_⟩:=I.list hq
   refine⟨pl.isList.typeIs,fun a e=>?_⟩
   cases e
   obtain⟨o,n,e,c,hd,_⟩:=pl
   exact⟨o,e,hd⟩
  ·refine⟨⟨o,I.kIn p o hk,hc⟩,fun a e=>?_⟩
   cases e
   exact⟨o,I.kIn _ o hk,hd⟩
  ·have z:∃o,s.heap.get? p=some o∧o.ExactDict:=by
    rcases hk with⟨kvs,hk⟩ | ⟨kvs,hk⟩
    ·obtain⟨_,_,_,_,o,_,_,e,ex,_⟩:=I.hok p _ hk
     exact⟨o,e,ex⟩
    ·obtain⟨_,_,_,_,o,_,_,e,ex,_⟩:=I.hok p _ hk
     exact⟨o,e,ex⟩
   obtain⟨o,e,ex⟩:=z
   refine⟨⟨o,e,ex.1⟩,fun a e2=>?_⟩
   cases e2
   exact⟨o,e,ex.2.1⟩
  ·obtain⟨o,_,_,_,e,ex,_⟩:=I.hok p _ hk
   refine⟨⟨o,e,ex.1⟩,fun a e2=>?_⟩
   cases e2
   exact⟨o,e,ex.2.1⟩
 |_=>exact False.elim ty
def tBM0(K:aa)(T:String)(r:V->List V->Hp->VK->Prop)(to:TE):TE:=fun σ H Q=>to σ H fun x H1=>tyV K T x H1∧r x [] H1 Q
def tBM(K:aa)(T:String)(r:V->List V->Hp->VK->Prop)(to:TE)(t:TA):TE:=fun σ H Q=>to σ H fun x H1=>tyV K T x H1∧t σ H1 fun xs H2=>r x xs H2 Q
variable{o e:Expr}{es:List Expr}{to:TE}{t:TA}{name:Str}{apos cpos:Pos}{T id:String}{r:V->List V->Hp->VK->Prop}
theorem y6z(pa:PlainAttrs T)(slot:Slot T name id)(hty:typeOf (.builtin id)=pure (.type "method_descriptor"))(hm:MtR X id r)(ho:PE X o to)
  (hbase:dS o name X.env (eval o X.env)=eval o X.env:=by rfl) (hline:(apos.endLine==cpos.line)=true:=by rfl):PE X (.Call (.Attribute o name apos) [] [] cpos) (tBM0 X.K T r to):=by
 intro pins s σ H Q I h
 refine wpAny_Call_method0_late hbase hline (thn (ho pins s σ H _ I h) fun v s1 ⟨x,H1,I1,r1,ty,q1⟩=>?_)
 obtain⟨h1,h2⟩:=y7q I1 r1 ty
 exact⟨T,id,pa,slot,hty,h1,h2,Calls.callWith_builtin rfl (PySem.evalArgs_none (hm pins s1 σ H1 x [] v [] Q I1 r1 .nil q1))⟩
theorem y3L(pa:PlainAttrs T)(slot:Slot T name id)(hty:typeOf (.builtin id)=pure (.type "method_descriptor"))(hm:MtR X id r)(ho:PE X o to)(ha:PA X (e::es) t)
  (hbase:dS o name X.env (eval o X.env)=eval o X.env:=by rfl)
  (hfew:((dY cpos (starEach (e::es) X.env)).all (fun x=>!x.1)&&(backToKw cpos (keywordEach [] X.env)).all (fun x=>x.1.isSome)
   && decide ((e::es).length+([]:List d3).length+(if([]:List d3).isEmpty then 0 else 1)<30))=true:=by rfl)
  (hline:(apos.endLine==cpos.line)=true:=by rfl) (hs:starEach (e::es) X.env=(false,eval e X.env)::starEach es X.env:=by rfl) (hplain:(dY cpos (starEach es X.env)).any (·.1)=false:=by rfl):
  PE X (.Call (.Attribute o name apos) (e::es) [] cpos) (tBM X.K T r to t):=by
 intro pins s σ H Q I h
 refine wpAny_Call_method_late hbase hfew hline rfl (thn (ho pins s σ H _ I h) fun v s1 ⟨x,H1,I1,r1,ty,q1⟩=>?_)
 obtain⟨h1,h2⟩:=y7q I1 r1 ty
 refine⟨T,id,pa,slot,hty,h1,h2,?_⟩
 have hA:=ha cpos pins s1 σ H1 _ I1 q1
 rw[hs]at hA ⊢
 refine Calls.callWith_builtin (by show(false||(dY cpos (starEach es X.env)).any (·.1))=false;rw[hplain] <;> rfl) (Calls.evalArgs_plain ?_)
 exact thn hA fun us s2 ⟨vs,H2,I2,r2,q2⟩=>hm pins s2 σ H2 x vs v us Q I2 r1 r2 q2
/- xs.append(e),list.index on a module's tuple .. are MtR facts of 06m -/
end

def MtM(X:Cx)(id:String)(r:V->List V->Hp->VK->Prop):Prop:=
 ∀(pins:List (Addr×Obj)) (s:dw) (σ:St) (H:Hp) (x:V) (xs:List V) (v:Value) (us:List Value) (Q:VK),Inv X pins σ H s->RelV x v->Vals xs us->r x xs H Q →
  wpAny (model X.prog X.w) X.A (call (.builtin id) (v::us)) (EP X pins σ Q) X.xe s

/-! ### lists of values -/
theorem Vals.one:∀{x:V} {us:List Value},Vals [x] us->∃u,us=[u]∧RelV x u
 |_,_,.cons r .nil=>⟨_,rfl,r⟩
theorem Vals.two:∀{x y:V} {us:List Value},Vals [x,y] us->∃u v,us=[u,v]∧RelV x u∧RelV y v
 |_,_,_,.cons r (.cons q .nil)=>⟨_,_,rfl,r,q⟩
theorem Vals.zero:∀{us:List Value},Vals [] us->us=[]
 |_,.nil=>rfl
theorem Vals.reverse{xs:List V}{us:List Value}(h:Vals xs us):Vals xs.reverse us.reverse:=by
 induction h with
 |nil=>exact .nil
 |cons r t ih=>rw[cf,cf];exact Vals.append ih (.cons r .nil)
theorem Vals.rep{xs:List V}{us:List Value}(h:Vals xs us):∀k:Nat,Vals (ad k xs).flatten (ad k us).flatten
 |0=>.nil
 |k+1=>by
  rw[aW,aW,aP,aP]
  exact Vals.append h (Vals.rep h k)
theorem z7k(its:List Value):∀(k:Nat) (acc:List Value),
  dM (fun x1 x2=>x1++x2) acc.toArray (ad k its.toArray)=(acc++(ad k its).flatten).toArray
 |0,acc=>by simp
 |k+1,acc=>by
  have e:acc.toArray++its.toArray=(acc++its).toArray:=by simp
  have e2:(acc++its)++(ad k its).flatten=acc++(ad (k+1) its).flatten:=by
   rw[aW,aP,aQ]
  rw[←e2,←z7k its k (acc++its),←e,aW,List.foldl_cons]

section
variable{X:Cx}{pins:List (Addr×Obj)}{σ:St}{H:Hp}{s:dw}{l:Addr}{xs ys:List V}

/-! ### the two steps: a tracked list is rewritten,a new list is laid -/
theorem Inv.lset{its its':List Value}{n:Nat}{f:Array Value->Array Value}{t':Nat}(I:Inv X pins σ H s)(hH:H l=some (.lst xs))
  (e:s.heap.get? l=some { cls:=.type "list",data:=.seq its.toArray n }) (hf:f its.toArray=its'.toArray) (hv:Vals ys its') (hz:ys.length≤sizeLine):
  Inv X pins σ (upd H l (.lst ys)) { s with heap:=s.heap.update l (Obj.mapSeq f),toks:=t' }:=by
 have q:=PySem.IsL.update e f
 rw[hf]at q
 refine I.write (x:=l) (e:=l) (by rw[hH];exact trivial) (.inl rfl) (fun b' u hb hu=>(Heap.get?_update_other s.heap (Obj.mapSeq f) (Ne.symm hb)).trans hu) ⟨_,q⟩ ?_
 exact⟨hz,its',_,hv,q⟩
theorem Inv.lnew{its:List Value}{t':Nat}(I:Inv X pins σ H s)(hv:Vals ys its)(hz:ys.length≤sizeLine):
  Inv X pins σ (upd H s.heap.objs.size (.lst ys)) { s with heap:=s.heap.push { cls:=.type "list",data:=.seq its.toArray },toks:=t' }:=
 I.laid (fun _ _ q=>Heap.get?_push_of_some _ q) (ak _) ⟨hz,its,0,hv,Heap.get?_push_size _ rfl⟩
theorem Inv.fresh(I:Inv X pins σ H s):H s.heap.objs.size=none:=I.hok.fresh (ak _)
theorem Inv.lstM(I:Inv X pins σ H s)(hH:H l=some (.lst xs)):xs.length≤sizeLine∧∃(its:List Value) (n:Nat),Vals xs its∧xs.length=its.length∧s.heap.get? l=some { cls:=.type "list",data:=.seq its.toArray n }:=by
 obtain⟨z,its,n,r,e⟩:=I.hok l _ hH
 exact⟨z,its,n,r,r.length,e⟩

theorem z8m{n:Nat}(h:n≤sizeLine):Builtin.List.listTooLong n=false:=by
 unfold Builtin.List.listTooLong
 exact decide_eq_false (by omega)
end

section
variable{X:Cx}

/-! ### methods -/
def z7X:V->List V->Hp->VK->Prop:=fun x vs H Q=>∃l xs y,x = .ref l∧vs=[y]∧H l=some (.lst xs)∧xs.length<sizeLine∧Q .non (upd H l (.lst (xs++[y])))
theorem z4X:MtM X "list.append" z7X:=by
 intro pins s σ H x vs v us Q I rx rv h
 obtain⟨l,xs,y,rfl,rfl,hH,hz,q⟩:=h
 cases rx
 obtain⟨u,rfl,ru⟩:=rv.one
 obtain⟨z,its,n,r,hl,e⟩:=I.lstM hH
 refine call_meets F.slot_list_append ⟨_,e,rfl⟩ F.entry_list_append (F.args_list_append_2 _ _) (PySem.list_append l its.toArray n u (by rw[ai];omega)) ⟨e,?_⟩
 refine⟨.non,_,I.lset (its':=its++[u]) hH e (by simp) (r.append (.cons ru .nil)) ?_,rfl,q⟩
 rw[av,bG]
 omega

def rExtend:V->List V->Hp->VK->Prop:=fun x vs H Q=>∃l b xs zs,x = .ref l∧vs=[.ref b]∧H l=some (.lst xs)∧H b=some (.lst zs)∧xs.length+zs.length≤sizeLine∧Q .non (upd H l (.lst (xs++zs)))
theorem z7h:MtM X "list.extend" rExtend:=by
 intro pins s σ H x vs v us Q I rx rv h
 obtain⟨l,b,xs,zs,rfl,rfl,hH,hB,hz,q⟩:=h
 cases rx
 obtain⟨u,rfl,ru⟩:=rv.one
 cases ru
 obtain⟨z,its,n,r,hl,e⟩:=I.lstM hH
 obtain⟨z2,its2,n2,r2,hl2,e2⟩:=I.lstM hB
 have hsz:its.toArray.size+its2.toArray.size≤sizeLine:=by rw[ai,ai];omega
 have hlong:¬ (!its.toArray.isEmpty&&Builtin.List.listTooLong (its.toArray.size+its2.toArray.size))=true:=by
  rw[z8m hsz,da]
  exact aj
 refine call_meets F.slot_list_extend ⟨_,e,rfl⟩ F.entry_list_extend (F.args_list_extend_2 _ _)
  (AutoSeq1.list_extend_list_list_0 l its.toArray n b its2.toArray n2 hlong (by rw[ai];omega) (by omega)) ⟨e,e2,?_⟩
 refine⟨.non,_,I.lset (its':=its++its2) hH e (by simp) (r.append r2) ?_,rfl,q⟩
 rw[av]
 omega




def y7t:V->List V->Hp->VK->Prop:=fun x vs H Q=>∃l xs,x = .ref l∧vs=[]∧H l=some (.lst xs)∧Q .non (upd H l (.lst []))
theorem z8u:MtM X "list.clear" y7t:=by
 intro pins s σ H x vs v us Q I rx rv h
 obtain⟨l,xs,rfl,rfl,hH,q⟩:=h
 cases rx
 have hus:=rv.zero
 subst hus
 obtain⟨z,its,n,r,hl,e⟩:=I.lstM hH
 refine call_meets F.slot_list_clear ⟨_,e,rfl⟩ F.entry_list_clear (F.args_list_clear_1 _) (AutoSeq1.list_clear_list_0 l its.toArray n (by rw[ai];omega)) ⟨e,?_⟩
 exact⟨.non,_,I.lset (its':=[]) (ys:=[]) hH e rfl .nil (bn _),rfl,q⟩

/-! ### list+list,list += list,list*int -/
def rCat:R2:=fun x y H Q=>∃l b xs zs,x = .ref l∧y = .ref b∧H l=some (.lst xs)∧H b=some (.lst zs)∧xs.length+zs.length≤sizeLine∧∀p,H p=none->Q (.ref p) (upd H p (.lst (xs++zs)))
theorem op_cat:OpR X (binaryOp .Add) rCat:=by
 intro pins s σ H x y v u Q I rx ry h
 obtain⟨l,b,xs,zs,rfl,rfl,hH,hB,hz,q⟩:=h
 cases rx
 cases ry
 obtain⟨z,its,n,r,hl,e⟩:=I.lstM hH
 obtain⟨z2,its2,n2,r2,hl2,e2⟩:=I.lstM hB
 refine PySem.P.add_list e e2 ?_ (by rw[ai,ai];omega)
 have ea:its.toArray++its2.toArray=(its++its2).toArray:=by simp
 rw[ea]
 exact⟨.ref _,_,I.lnew (t':=s.toks) (r.append r2) (by rw[av];omega),rfl,q _ I.fresh⟩
/-- a list times an int (a negative one is nothing) -/
def rRep:R2:=fun x y H Q=>∃l k xs,x = .ref l∧y = .int k∧H l=some (.lst xs)∧-(2 ^ 63)≤k∧k<2 ^ 63∧xs.length*k.toNat≤sizeLine ∧
 ∀p,H p=none->Q (.ref p) (upd H p (.lst (ad k.toNat xs).flatten))
theorem len_rep{α:Type}(xs:List α)(k:Nat):(ad k xs).flatten.length=k*xs.length:=by
 induction k with
 |zero=>simp
 |succ k ih=>rw[aW,aP,av,ih,Nat.succ_mul,Nat.add_comm]
theorem op_rep:OpR X (binaryOp .Mult) rRep:=by
 intro pins s σ H x y v u Q I rx ry h
 obtain⟨l,k,xs,rfl,rfl,hH,h1,h2,hz,q⟩:=h
 cases rx
 obtain⟨t,rfl⟩:=ry
 obtain⟨z,its,n,r,hl,e⟩:=I.lstM hH
 have hlen:its.toArray.size*k.toNat≤sizeLine:=by rw[ai,←hl];exact hz
 have hcap:¬ its.toArray.size*k.toNat>(2 ^ 63 - 1) / 8:=by
  have:(sizeLine:Nat)≤(2 ^ 63 - 1) / 8:=by decide
  omega
 have hfit:¬ (!Builtin.List.listFitsIndex k)=true:=by
  rw[fitsIndex_both h1 h2]
  exact aj
 have hlong:¬ Builtin.List.listTooLong (its.toArray.size*k.toNat)=true:=by
  rw[z8m hlen]
  exact aj
 have hnew:dM (fun x1 x2=>x1++x2) #[] (ad (if its.toArray.isEmpty=true then 0 else k.toNat) its.toArray)=(ad k.toNat its).flatten.toArray:=by
  have f0:∀m:Nat,dM (fun x1 x2=>x1++x2) #[] (ad m its.toArray)=(ad m its).flatten.toArray:=fun m=>by
   have:=z7k its m []
   rw[cX]at this
   exact this
  rw[f0]
  cases its with
  |nil=>simp
  |cons a r'=>rw[if_neg (by simp)]
 refine wpAny_binaryOp_repeat_ref (T := "list") (U := "int") (by decide) ⟨_,e,rfl⟩ (fun s'=>typeIs_int s' k t) noFill_list_mul F.fills_int_mul F.slot_int_rmul repeat_list F.slot_int_index.lookup
  (call_meets F.slot_int_rmul (typeIs_int s k t) F.entry_int_rmul (F.args_int_rmul_2 _ _) (int___rmul___int_list k t l its.toArray n)
   ⟨e,rfl,⟨_,e,rfl⟩,call_meets F.slot_list_mul ⟨_,e,rfl⟩ F.entry_list_mul (F.args_list_mul_2 _ _) (AutoListH.list___mul___list_int_3 l its.toArray n k t hfit hcap hlong) ⟨e,?_⟩⟩)
 rw[hnew]
 exact⟨.ref _,_,I.lnew (t':=s.toks) (r.rep k.toNat) (by rw[len_rep,Nat.mul_comm];exact hz),rfl,q _ I.fresh⟩

/-! ### del xs[i] -/
end

/-! ### xs[a:b]=ys -/
section
end

section
end
end L2

namespace Att
open PySem PySem.W PySem.Calls PyProof.Rows

/-! ### the script -/
theorem z4r{P:Params}{h:Heap}:∀(ns:List Int) (vs:List Value),WellAll P h vs (ns.map WData.int)->IntsAre vs ns:=by
 intro ns
 induction ns with
 |nil=>
  intro vs w
  rw[List.map_nil]at w
  cases w
  exact .nil
 |cons n ns ih=>
  intro vs w
  rw[aO]at w
  cases w with
  |cons a b=>
   cases a
   exact .cons _ _ (ih _ b)

theorem y2D{l:OpenLaw}{n:Nat}(hn:l.most=some n){P:Params}{h:Heap}{args:List WData}{vals:List Value}
  (hpre:l.row.toRowW.claim.pre args=true) (hwl:WellAll P h vals args):
  ∃a vs ns,vals=[Value.ref a]∧args=[WData.list (ns.map WData.int)]∧h.get? a=some { cls:=.type "list",data:=.seq vs.toArray }∧IntsAre vs ns∧ns.length≤n:=by
 have hsh:WShape.hasAll [] args [.list .int]=true:=(pre_splitW hpre).1
 have hc:l.pre.holds [] { args:=args }=true:=(pre_splitW hpre).2
 obtain⟨d,r,rfl,h1,h2⟩:=hasAllW_cons hsh
 obtain rfl:=hasAllW_nil h2
 obtain⟨xs,rfl,h3⟩:=hasW_list h1
 obtain⟨ns,rfl⟩:=items_int h3
 have hlen:ns.length≤n:=by
  unfold OpenLaw.pre at hc
  have h4:(WTm.not (.lt (.lit (.int (n:Int))) (.len (.arg 0)))).holds [] { args:=[.list (ns.map .int)] }=true:=by
   have h4:=(holds_andW hc).1
   rw[hn]at h4
   exact h4
  have h5:=condW_of h4 (w_not (w_lt w_lit (w_len_list (w_arg rfl))))
  rw[ah]at h5
  refine Nat.le_of_not_lt fun q=>?_
  have q':(n:Int)<((ns.length:Nat):Int):=by omega
  first
   | (rw[decide_eq_true q']at h5;exact absurd h5 (by decide))
   | (simp at h5;omega)
 cases hwl with
 |cons w1 w2=>
  cases w2
  cases w1 with
  |list ho hall=>exact⟨_,_,ns,rfl,rfl,ho,z4r ns _ hall,hlen⟩

theorem y3R(l:OpenLaw)(args:List WData):l.row.toRowW.claim.post args (.bool true) args=true:=
 postW_of (r:=l.row.toRowW) (X:=(true==true))
  (show WShape.has [] (.bool true) .bool=true by first | rfl | decide | simp[WShape.has,WShape.arms,WShape.armsAll])
  (show(WTm.eq .res (.lit (.bool true))).value [] { args:=args,res:=some (.bool true),after:=args }=some (.bool (true==true)) from w_eq_bool (w_res rfl) w_lit) rfl

/-! ### the attachment: holds_open's last premise (the goal 'hc' behind k_head) from a wpAny of the law's body -/

/-- the same from a codeAny of the CALL (for a layer whose function contracts speak of calls) -/
theorem attach_call{l:OpenLaw}{n:Nat}{q:dN}{loose:List Str}{XP:(Str->Option Value)->Heap->Prop}{YP:dO->Heap->Prop}{d:DefRec}
  (hn:l.most=some n) (hdf:d.params.defaults=[])
  (call:∀(w:dO) (s₀ s₁:dw) (mg mb:Str->Option Value) (fa:Addr) (o:Obj) (pm cd doc:Value) (a:Addr) (vs:List Value) (ns:List Int),
   Ground q loose [] XP w s₀ mg mb s₁.heap->YP w s₁.heap →
   s₁.heap.get? fa=some o->o.data = .func (docDef d.name d.params d.body d.scope pm cd doc)->s₁.heap.CodeRec cd d.name->mg d.name=some (.ref fa) →
   s₁.heap.get? a=some { cls:=.type "list",data:=.seq vs.toArray }->IntsAre vs ns->ns.length≤n->s₁.gens = #[] →
   codeAny (model l.prog w) callerA (.call (.ref fa) ⟨[.ref a],[]⟩) (fun r s'=>r = .ok (.ret (.bool true))∧OldK s₁.heap s'.heap∧s'.os=s₁.os∧AllBare s'.gens) s₁):
  WalkO q loose XP YP l.row.toRowW d [] (fun f vs=>PySem.call f vs):=by
 intro w s₀ s₁ mg mb G Y fa o pm cd doc dV kV ho hd hcd hD hmg hg args vals as hpre hlay hrd hwl hlo
 obtain rfl:dV = .none:=Dflts.none hD hdf
 obtain rfl:kV = .none:=Dflts.noKw hD
 obtain⟨a,vs,ns,rfl,rfl,hobj,hints,hlen⟩:=y2D hn hpre hwl
 refine enter_call (codeAny_mono (call w s₀ s₁ mg mb fa o pm cd doc a vs ns G Y ho (fd_plain hd) hcd hmg hobj hints hlen hg) fun r s' hq=>?_)
 obtain⟨rfl,h2,h3,h4⟩:=hq
 exact⟨.inl ⟨.bool true,.bool true,[],rfl,fun _=>rfl,.bool true,y3R l _,fun _=>⟨List.Pairwise.nil,fun _ hm=>(nomatch hm)⟩⟩,h2,h3,h4⟩


/-! ### rules over ANY heap (no z6X) from facts about the written part K: the library's own take a z6X (News) for what they write -/
section





/-! the whole heap as the z6X: makes every rule that writes through a z6X a rule over any heap -/
def z6X(h:Heap)(L d:Addr):List (Addr×Obj):=(ar h.objs.size).filterMap fun a=>if a=L∨a=d then none else(h.get? a).map fun o=>(a,o)

end
end Att

namespace L2
open PySem PySem.Spec PyProof.Rows

theorem z6Q:∀{vs:List Value} {ns:List Int},IntsAre vs ns->Vals (ns.map V.int) vs
 |_,_,.nil=>.nil
 |_,_,.cons n t h=>.cons ⟨t,rfl⟩ (z6Q h)

/-- nothing is tracked but the script,known to the object (or it is an object of the module) -/
def Only(H:Hp):Prop:=∀b,H b=none∨∃o xs,H b=some (.frz o (.lst xs))

/-- THE HEAD: the law's promise,at the heap behind the top. F,the promise of the law's def,may use that base is part of the heap (so K.In base,base.Ns mainGlobals mg stand in Mod) -/
theorem y4H{P:dN}{w:dO}{K:aa}{mg mb:Str->Option Value}{CX:CXT}{k:Nat}{fa a:Addr}{fd:dP}{x:Str}{sp:Sp}{s₁:dw}{vs:List Value}{ns:List Int}
  (KX:K.In s₁.heap) (hns:s₁.heap.Ns mainGlobals mg) (hb:s₁.heap.Ns builtinsNs mb) (hbb:∀x:Str,x ≠ "__name__" → mb x=dZ x) (hlim:s₁.heap.NoLimit) (hg:s₁.gens = #[])
  (ha:s₁.heap.get? a=some { cls:=.type "list",data:=.seq vs.toArray }) (hi:IntsAre vs ns) (hl:ns.length≤sizeLine) (hr:Room k callerA)
  (F:∀base:Heap,K.In base->base.Ns mainGlobals mg->FnOk P w K mg base CX k fa fd [x] sp) (hbind:∀(s:dw) (u:Value),BindsTo s fd ⟨[u],[]⟩ [(x,u)])
  (hsp:∀H:Hp,Only H->SqL K H a (ns.map V.int)->sp [.ref a] H (fun v _=>v = .bl true) fun _ _ _=>False)
  (hCX:∀H e s',CX [] H s₁ (fun _ _ _=>False) e s'->False):
  codeAny (model P w) callerA (.call (.ref fa) ⟨[.ref a],[]⟩) (fun r s'=>r = .ok (.ret (.bool true))∧OldK s₁.heap s'.heap∧s'.os=s₁.os∧AllBare s'.gens) s₁:=by
 have rv:=z6Q hi
 have lenV:=hi.length
 -- from an abstract heap in which nothing but the script may be tracked
 have core:∀H:Hp,Only H->SqL K H a (ns.map V.int)->HOk P w H s₁.heap->(∀b,H b≠none->b=a)->(H a≠none->K.lookup a=none) →
   codeAny (model P w) callerA (.call (.ref fa) ⟨[.ref a],[]⟩) (fun r s'=>r = .ok (.ret (.bool true))∧OldK s₁.heap s'.heap∧s'.os=s₁.os∧AllBare s'.gens) s₁:=by
  intro H hO hS hok hA hK
  have base_of:∀{b:Addr} {o:Obj},s₁.heap.get? b=some o->H b=none->(y4G s₁.heap H).get? b=some o:=fun e n=>y5E e n
  have noA:∀{b:Addr} {o:Obj} {es:Array DictEntry} {ep:Nat},s₁.heap.get? b=some o->o.data = .dict es ep->H b=none:=fun {b o es ep} e d=>by
   cases q:H b with
   |none=>rfl
   |some u=>
    have e':b=a:=hA b (by rw[q];simp)
    subst e'
    rw[ha]at e;cases e
    have d':Data.seq vs.toArray _=Data.dict es ep:=d
    cases d'
  have nsK:∀{b:Addr} {m:Str->Option Value},s₁.heap.Ns b m->(y4G s₁.heap H).Ns b m:=fun {b m} ⟨o,es,ep,e,d,r⟩=>⟨o,es,ep,base_of e (noA e d),d,r⟩
  have hKb:K.In (y4G s₁.heap H):=fun b o e=>base_of (KX b o e) (by
   cases q:H b with
   |none=>rfl
   |some u=>
    have e':b=a:=hA b (by rw[q];simp)
    subst e'
    rw[hK (by rw[q];simp)]at e;cases e)
  have hM:Mod K mg (y4G s₁.heap H):=⟨hKb,nsK hns,⟨mb,nsK hb,hbb⟩,let⟨mc,h1,h2⟩:=hlim;⟨mc,nsK h1,h2⟩⟩
  have e0:Env0 P w K mg (y4G s₁.heap H) callerA [] s₁ H:=⟨rfl,hM,fun b o e=>of_hidT e,Nat.le_of_eq (y1E _ _),trivial,fun b hb=>absurd (show b∈([]:List Addr) from hb) (by simp),hok,.of_eq hg⟩
  refine codeAny_mono ((F _ hKb (nsK hns)).run callerA [] s₁ H ⟨[.ref a],[]⟩ [.ref a] [.ref a] _ _ hr e0 (hbind s₁ (.ref a)) (.cons rfl .nil) (hsp H hO hS)) fun r s' h=>?_
  cases r with
  |error e=>exact(hCX H e s' h).elim
  |ok fl=>
   cases fl with
   |next=>exact False.elim h
   |brk=>exact False.elim h
   |cont=>exact False.elim h
   |ret u=>
    obtain⟨v,H',os,bare,un,hok',r',q⟩:=h
    have q':v = .bl true:=q
    subst q'
    obtain rfl:u=Value.bool true:=r'
    refine⟨rfl,OldK.of_keep fun b o e=>?_,os,bare⟩
    cases q:H b with
    |none=>exact un.keep b o e q (by intro z;exact absurd (show b∈([]:List Addr) from z) (by simp)) (by simp)
    |some u=>
     rcases hO b with z | ⟨ob,xs,z⟩
     ·rw[q]at z;cases z
     ·have z2:=un.frzs b ob _ z
      obtain⟨e1,_⟩:=hok b _ z
      obtain⟨e2,_⟩:=hok' b _ z2
      rw[e]at e1;cases e1
      exact e2
 cases hk:K.lookup a with
 |some o=>
  -- the script is one of the module's own objects
  have e:=KX a o hk
  rw[ha]at e
  cases e
  refine core (fun _=>none) (fun _=>.inl rfl) (.inr ⟨_,vs.toArray,_,hk,rfl,rfl,rfl,by rw[ai,lenV];exact hl,by simpa using rv⟩) (fun b u z=>by have z':(none:Option HO)=some u:=z;cases z') (fun b z=>absurd rfl z) fun z=>absurd rfl z
 |none=>
  refine core (fun b=>if b=a then some (.frz { cls:=.type "list",data:=.seq vs.toArray } (.lst (ns.map V.int)))else none) (fun b=>?_) (.inl (.inr ⟨{ cls:=.type "list",data:=.seq vs.toArray },if_pos rfl⟩)) (fun b u z=>?_) (fun b z=>?_) fun _=>hk
  ·by_cases hb:b=a
   ·exact .inr ⟨_,_,if_pos hb⟩
   ·exact .inl (if_neg hb)
  ·by_cases hb:b=a
   ·have z':=(if_pos hb).symm.trans z
    cases z'
    subst hb
    exact⟨ha,by rw[ah];exact hl,vs,_,rv,ha⟩
   ·have z':=(if_neg hb).symm.trans z
    cases z'
  ·by_cases hb:b=a
   ·exact hb
   ·exact absurd (if_neg hb) z

abbrev KOf{K:aa}{h:Heap}(_:K.In h):aa:=K

/-- the goal that k_head leaves (case hc),from the law's promise. F gives the function object fd (K's own) once,then the promise over every base -/
theorem walk_of{l:cR}{n k:Nat}{q:dN}{loose:List Str}{XP:(Str->Option Value)->Heap->Prop}{YP:dO->Heap->Prop}{d:DefRec}{K:Params->aa}{CX:dO->CXT}{sp:dO->Sp}{x:Str}
  (hn:l.most=some n) (hn2:n≤sizeLine) (hdf:d.params.defaults=[]) (hr:Room k callerA)
  (hY:∀(w:dO) (h:Heap),YP w h->(K w.params).In h)
  (F:∀(w:dO) (mg:Str->Option Value) (fa:Addr) (h:Heap),(K w.params).In h->h.Ns mainGlobals mg->mg d.name=some (.ref fa) →
   ∃fd:dP,(∀(s:dw) (u:Value),BindsTo s fd ⟨[u],[]⟩ [(x,u)]) ∧
    ∀base:Heap,(K w.params).In base->base.Ns mainGlobals mg->FnOk l.prog w (K w.params) mg base (CX w) k fa fd [x] (sp w))
  (hsp:∀(w:dO) (H:Hp) (a:Addr) (ns:List Int),ns.length≤n->Only H->SqL (K w.params) H a (ns.map V.int)->sp w [.ref a] H (fun v _=>v = .bl true) fun _ _ _=>False)
  (hCX:∀(w:dO) (H:Hp) (s:dw) (e:Value) (s':dw),CX w [] H s (fun _ _ _=>False) e s'->False):
  PySem.W.WalkO q loose XP YP l.row.toRowW d [] (fun f vs=>PySem.call f vs):=by
 refine Att.attach_call hn hdf fun w s₀ s₁ mg mb fa o pm cd doc a vs ns G Y ho hd hcd hmg hobj hints hlen hg=>?_
 have KX:=hY w _ Y
 obtain⟨fd,hb,hF⟩:=F w mg fa _ KX G.T.g hmg
 exact y4H KX G.T.g G.T.b G.T.builtins G.T.nolimit hg hobj hints (aR hlen hn2) hr hF hb (fun H hO hS=>hsp w H a ns hlen hO hS) fun H e s'=>hCX w H s₁ e s'
end L2

/- THE LAST THEOREM (shape;LID,My.* are yours):
   My.Adr: a structure of the addresses that your layer names (classes,functions);My.Txt K t: a structure (Prop) of the equations over K;
   My.txt_mk:{K} {implicit addresses ..} (e1:nsIn K mainGlobals "law" = some (some (.ref f))) (e2:K.lookup f=some ⟨oc,od,.func (fnOf "law" "law" params body scope dV kV doc pm an cdv ct),sl⟩) (e3:codeIn K cdv "law" = true) .. : ∃t,My.Txt K t

set_option maxRecDepth 100000 in
set_option maxHeartbeats 0 in
theorem PySem.Challenge.cw_LID_holds : PySem.Challenge.rw_LID.Holds := by
 w_on;o_law;k_head;(case hw=>w_witness2)
 k_fill
 refine L2.walk_of (l:=PySem.Challenge.rw_LID) (n:=63) (k:=40) (x := "script") (CX:=fun w=>..) (sp:=fun _=>My.sp_law) rfl (by decide) rfl ⟨rfl,by decide,by decide⟩ (fun w h Y=>PySem.W.kIn_of Y) ?F ?S ?C
 case F=>
  intro w mg fa h KX G hmg
  have T:∃t,My.Txt (L2.KOf KX) t:=by
   dsimp only[L2.KOf]                          -- K must stand as «<heap const> w.params» for k_is
   refine' My.txt_mk ?e1 ?e2 ?e3 ..
   (case e1=>PySem.W.k_is)                    -- in the order: a name -> its address -> its object -> its parts
   (case e2=>PySem.W.k_is)
   ..
  obtain⟨t,T⟩:=T
  have e0:=hmg.symm.trans (cD KX G T.law)
  cases e0                                       -- fa is the law's own address
  exact⟨_,fun s u=>.of_eq rfl,fun base kb nb=>My.law_fn T kb nb⟩     -- if «.of_eq rfl» comes too early: refine' ⟨_,?b,fun base kb nb=>My.law_fn T kb nb⟩;exact fun s u=>.of_eq rfl
 case S=>exact fun w H a ns hl hO hS=>..
 case C=>exact ..
(the tactic k_is has no namespace: write k_is) -/

/-! SHORT WORDS over the layer: a def of the text,its body,what a loop and a test want. -/
namespace L2
open PySem PySem.Spec PyProof.Rows

/-! ### the text by places -/
def z1J(s:Stmt):Arguments:=match s with
 |.FunctionDef _ a _ _ _ _ _ _ _ _=>a
 |_=>{ posonlyargs:=[],args:=[],vararg:=none,kwonlyargs:=[],kw_defaults:=[],kwarg:=none,defaults:=[] }
def z1d(s:Stmt):List Stmt:=match s with
 |.FunctionDef _ _ b _ _ _ _ _ _ _=>b
 |_=>[]
def z0f(s:Stmt):d5:=match s with
 |.FunctionDef _ _ _ _ _ _ sc _ _ _=>sc
 |_=>{ kind:=.function,names:=[],isGenerator:=false,isCoroutine:=false }

/-! ### no exception leaves a def -/
abbrev CX0:CXT:=fun _ _ _ _ _ _=>False
abbrev E0:XK:=fun _ _ _=>False
theorem pass0{X:Cx}:y4h CX0 X E0:=fun _ _ _ _ _ _ _ h=>h.elim

/-! ### a def (or method) of the text as it stands behind the top -/
structure Fun(K:aa)(x qual:Str)(st:Stmt)(f:Addr)(fd:dP):Prop where
 ex:∃(oc:Value) (od:Option Addr) (kV doc pm:Value) (an:Option Addr) (cdv ct:Value) (osl:Array (Option Value)),
  fd=aZ x qual (z1J st) (z1d st) (z0f st) .none kV doc pm an cdv ct∧K.lookup f=some ⟨oc,od,.func fd,osl⟩∧cy K cdv qual=true
 kp:bj K (.ref f)=true
section
variable{P:dN}{w:dO}{K:aa}{mg:Str->Option Value}{base:Heap}
/-- THE RULE for a def: its body as a term of rules,and the reading of that term -/
theorem Fun.ok{x qual:Str}{st:Stmt}{f:Addr}{fd:dP}{N ps:List Str}{k:Nat}{sp:Sp}(F:Fun K x qual st f fd)(S:FnScope N ps (z0f st))(len:∀vs H Q E,sp vs H Q E->vs.length=ps.length)
  (hbody:∀(cdv:Value) (A:Around) (outer:List Env) (s:dw) (H:Hp) (vs:List V) (Q:VK) (E:XK),Room k (A.deeper (envOfC qual (z0f st) s.heap.objs.size f cdv))->sp vs H Q E →
   ∃t,PSs (z8G CX0 P w K mg base N qual (z0f st) f cdv A outer s H E).nox (z1d st) t∧t { nx:=fun _ H'=>Q .non H',rt:=Q } (z4b N vs) H):FnOk P w K mg base CX0 (k+1) f fd ps sp:=by
 obtain⟨oc,od,kV,doc,pm,an,cdv,ct,osl,rfl,lk,hcd⟩:=F.ex
 refine fn_of lk hcd S len fun A outer s H vs Q E hr hsp=>?_
 obtain⟨t,h,q⟩:=hbody cdv A outer s H vs Q E hr hsp
 exact⟨t,h.nox,q⟩
/-- how its arguments bind (no defaults): h is «fun _ _ _ _ _ _ us hl=>match us,hl with | [_,_],_=>rfl»,one _ a parameter -/
theorem Fun.binds{x qual:Str}{st:Stmt}{f:Addr}{fd:dP}{ps:List Str}(F:Fun K x qual st f fd)
  (h:∀(kV doc pm:Value) (an:Option Addr) (cdv ct:Value) (us:List Value),us.length=ps.length->bindArgs (aZ x qual (z1J st) (z1d st) (z0f st) .none kV doc pm an cdv ct) ⟨us,[]⟩=pure (ps.zip us)):Binds K fd ps []:=by
 obtain⟨oc,od,kV,doc,pm,an,cdv,ct,osl,rfl,lk,hcd⟩:=F.ex
 exact .all (h kV doc pm an cdv ct)
theorem fun_mk{x qual:Str}{st:Stmt}{f:Addr}{oc:Value}{od an:Option Addr}{osl:Array (Option Value)}{kV doc pm cdv ct:Value}(l:K.lookup f=some ⟨oc,od,.func (aZ x qual (z1J st) (z1d st) (z0f st) .none kV doc pm an cdv ct),osl⟩)
  (c:cy K cdv qual=true) (k:bj K (.ref f)=true):Fun K x qual st f (aZ x qual (z1J st) (z1d st) (z0f st) .none kV doc pm an cdv ct):=⟨⟨oc,od,kV,doc,pm,an,cdv,ct,osl,rfl,l,c⟩,k⟩
end
theorem z4C{n:Nat}(h:n≤1000):n<sizeLine:=Nat.lt_of_le_of_lt h (by decide)

/-! ### expressions in short: the name that stands in the i-th slot -/
section
variable{X:Cx}
theorem pv(i:Nat){x:Str}{pos:Pos}(hN:X.N[i]? = some x:=by rfl)(hv:Vis X.env.scope x:=by first | exact Or.inl rfl | exact Or.inr (Or.inl rfl) | exact Or.inr (Or.inr rfl))(hd:(x==("__debug__" : Str))=false:=by decide)
  (hcd:(x==("__classdict__" : Str))=false:=by decide):PE X (.Name x pos) (z5m i):=pe_var hN hv hd hcd
end

/-! ### tests -/
theorem iteF{A B:Prop}(h:B):if false=true then A else B:=by
 rw[if_neg aj]
 exact h
theorem iteT{A B:Prop}(h:A):if true=true then A else B:=by
 rw[if_pos rfl]
 exact h

/-! ### heaps -/
/-- all that was tracked is as it was -/
def Same(H H':Hp):Prop:=∀b o,H b=some o->H' b=some o
theorem Same.refl(H:Hp):Same H H:=fun _ _ h=>h
theorem Same.trans{H H1 H2:Hp}(a:Same H H1)(b:Same H1 H2):Same H H2:=fun c o h=>b c o (a c o h)
theorem Same.free{H H':Hp}(e:Same H H'){l:Addr}(h:H' l=Option.none):H l=Option.none:=by
 cases q:H l with
 |none=>rfl
 |some o=>
  rw[e l o q]at h
  cases h
theorem Same.seq{K:aa}{H H':Hp}{a:Addr}{xs:List V}(e:Same H H')(h:SqL K H a xs):SqL K H' a xs:=by
 rcases h with (h | ⟨o,h⟩) | h
 ·exact .inl (.inl (e _ _ h))
 ·exact .inl (.inr ⟨o,e _ _ h⟩)
 ·exact .inr h


/-! ### lists of pairs as tables -/
section
variable{κ:Type}[DecidableEq κ]
def z8l(kvs:List (κ×V))(k:κ):Option V:=(kvs.find? fun kv=>decide (kv.1=k)).map (·.2)
/-- in its place,or at the end -/
def z6A(kvs:List (κ×V))(k:κ)(v:V):List (κ×V):=
 if(kvs.any fun kv=>decide (kv.1=k))=true then kvs.map (fun kv=>if kv.1=k then(kv.1,v)else kv)else kvs++[(k,v)]
def dropK(kvs:List (κ×V))(k:κ):List (κ×V):=kvs.filter fun kv=>decide (kv.1≠k)

theorem z5H{p:κ×V}{r:List (κ×V)}{k:κ}(e:p.1=k):z8l (p::r) k=some p.2:=by simp[z8l,bM,e]
theorem z5Q{p:κ×V}{r:List (κ×V)}{k:κ}(e:¬ p.1=k):z8l (p::r) k=z8l r k:=by simp[z8l,bM,e]
theorem z5J(k:κ):∀kvs:List (κ×V),(kvs.any fun kv=>decide (kv.1=k))=(z8l kvs k).isSome
 |[]=>rfl
 |p::r=>by
  rw[cg]
  by_cases e:p.1=k
  ·simp only[z5H e,decide_eq_true e,Bool.true_or,dB]
  ·rw[z5Q e,decide_eq_false e,Bool.false_or];exact z5J k r
theorem z4A(kvs:List (κ×V))(k:κ)(v:V):(z6A kvs k v).length≤kvs.length+1:=by
 unfold z6A
 split
 ·rw[ah];omega
 ·rw[av,bv,List.length_nil];omega

theorem RelO.isSome_eq{o:Option V}{u:Option Value}(r:RelO o u):o.isSome=u.isSome:=by
 cases o with
 |none=>cases u with
  |none=>rfl
  |some _=>exact(show False from r).elim
 |some _=>cases u with
  |none=>exact(show False from r).elim
  |some _=>rfl
theorem RelO.getD{o:Option V}{u:Option Value}{d:V}{d':Value}(r:RelO o u)(rd:RelV d d'):RelV (o.getD d) (u.getD d'):=by
 cases o with
 |none=>cases u with
  |none=>exact rd
  |some _=>exact(show False from r).elim
 |some _=>cases u with
  |none=>exact(show False from r).elim
  |some _=>exact r

/-- raw tables of the same keys -/
theorem KV.val{kvs:List (κ×V)}{vs:List (κ×Value)}(r:KV kvs vs)(k:κ):RelO (z8l kvs k) (valueAt vs k):=by
 unfold KV at r
 induction r with
 |nil=>exact True.intro
 | @cons p q ps qs h t ih=>
  obtain⟨h1,h2⟩:=h
  by_cases e:p.1=k
  ·have e':q.1=k:=h1.symm.trans e
   have b:valueAt (q::qs) k=some q.2:=by simp[valueAt,bM,e']
   rw[z5H e,b];exact h2
  ·have e':¬ q.1=k:=fun z=>e (h1.trans z)
   have b:valueAt (q::qs) k=valueAt qs k:=by simp[valueAt,bM,e']
   rw[z5Q e,b];exact ih
theorem KV.any{kvs:List (κ×V)}{vs:List (κ×Value)}(r:KV kvs vs)(k:κ):(kvs.any fun kv=>decide (kv.1=k))=vs.any fun kv=>decide (kv.1=k):=by
 unfold KV at r
 induction r with
 |nil=>rfl
 |cons h t ih=>rw[cg,cg,ih,h.1]
theorem KV.repl{kvs:List (κ×V)}{vs:List (κ×Value)}(r:KV kvs vs)(k:κ){y:V}{u:Value}(ry:RelV y u):
  KV (kvs.map fun kv=>if kv.1=k then(kv.1,y)else kv) (vs.map fun kv=>if kv.1=k then(kv.1,u)else kv):=by
 unfold KV at r ⊢
 induction r with
 |nil=>exact .nil
 | @cons p q ps qs h t ih=>
  rw[aO,aO]
  refine .cons ?_ ih
  obtain⟨h1,h2⟩:=h
  by_cases e:p.1=k
  ·rw[if_pos e,if_pos (h1.symm.trans e)];exact⟨h1,ry⟩
  ·rw[if_neg e,if_neg (fun z=>e (h1.trans z))];exact⟨h1,h2⟩
theorem KV.put{kvs:List (κ×V)}{vs:List (κ×Value)}(r:KV kvs vs)(k:κ){y:V}{u:Value}(ry:RelV y u):KV (z6A kvs k y) (stored vs k u):=by
 unfold z6A stored
 rw[r.any k]
 by_cases e:(vs.any fun kv=>decide (kv.1=k))=true
 ·rw[if_pos e,if_pos e];exact r.repl k ry
 ·rw[if_neg e,if_neg e];exact Paired.snoc r ⟨rfl,ry⟩
theorem KV.drop{kvs:List (κ×V)}{vs:List (κ×Value)}(r:KV kvs vs)(k:κ):KV (dropK kvs k) (without vs k):=by
 unfold KV at r ⊢
 unfold dropK without
 induction r with
 |nil=>exact .nil
 | @cons p q ps qs h t ih=>
  obtain⟨h1,h2⟩:=h
  rw[List.filter_cons,List.filter_cons]
  by_cases e:p.1=k
  ·have a:¬ decide (p.1≠k)=true:=by simp[e]
   have b:¬ decide (q.1≠k)=true:=by simp[h1.symm.trans e]
   rw[if_neg a,if_neg b];exact ih
  ·have e':¬ q.1=k:=fun z=>e (h1.trans z)
   have a:decide (p.1≠k)=true:=by simp[e]
   have b:decide (q.1≠k)=true:=by simp[e']
   rw[if_pos a,if_pos b];exact .cons ⟨h1,h2⟩ ih
theorem KV.keys{kvs:List (κ×V)}{vs:List (κ×Value)}(r:KV kvs vs):kvs.map (·.1)=vs.map (·.1):=by
 unfold KV at r
 induction r with
 |nil=>rfl
 |cons h t ih=>rw[aO,aO,ih,h.1]
theorem KV.length{kvs:List (κ×V)}{vs:List (κ×Value)}(r:KV kvs vs):kvs.length=vs.length:=Paired.length r
end


/-! ### a tracked dict,its keys ints and texts or tuples of these -/
theorem kV_is{P:dN}{w:dO}{k:Key}{u:Value}(r:RelV (kV k) u):(z1h P w).is k u=true:=by
 cases k with
 |inl i=>obtain⟨t,e⟩:=(show ∃t,u=Value.int i t from r);subst e;exact z7F P w i t
 |inr x=>obtain⟨t,e⟩:=(show ∃t,u=Value.str x t from r);subst e;exact z7K P w x t
theorem z6Y{P:dN}{w:dO}:∀{ks:List Key} {us:List Value},Vals (ks.map kV) us->ItemsAre (z1h P w) ks us
 |[],_,r=>by rw[List.map_nil]at r;cases r;exact .nil
 |k::ks,_,r=>by
  rw[aO]at r
  cases r with
  |cons h t=>exact .cons (kV_is h) (z6Y t)

/-- raw entries of a dict with tuple keys -/
abbrev KT(H:Hp):List (List Key×V)->List (List Key×Addr×Value)->Prop:=Paired fun p q=>p.1=q.1∧H q.2.1=some (.tup (p.1.map kV))∧RelV p.2 q.2.2
theorem KT.val{H:Hp}{kvs:List (List Key×V)}{xs:List (List Key×Addr×Value)}(r:KT H kvs xs)(k:List Key):RelO (z8l kvs k) ((atKey xs k).map (·.2)):=by
 induction r with
 |nil=>exact True.intro
 | @cons p q ps qs h t ih=>
  obtain⟨h1,_,h2⟩:=h
  by_cases e:p.1=k
  ·have e':q.1=k:=h1.symm.trans e
   have b:atKey (q::qs) k=some q.2:=by simp[atKey,bM,e']
   rw[z5H e,b];exact h2
  ·have e':¬ q.1=k:=fun z=>e (h1.trans z)
   have b:atKey (q::qs) k=atKey qs k:=by simp[atKey,bM,e']
   rw[z5Q e,b];exact ih
theorem KT.repl{H:Hp}{kvs:List (List Key×V)}{xs:List (List Key×Addr×Value)}(r:KT H kvs xs)(k:List Key){y:V}{u:Value}(ry:RelV y u):
  KT H (kvs.map fun kv=>if kv.1=k then(kv.1,y)else kv) (xs.map (putAt k u)):=by
 induction r with
 |nil=>exact .nil
 | @cons p q ps qs h t ih=>
  rw[aO,aO]
  refine .cons ?_ ih
  obtain⟨h1,h2,h3⟩:=h
  unfold putAt
  by_cases e:p.1=k
  ·rw[if_pos e,if_pos (h1.symm.trans e)];exact⟨h1,h2,ry⟩
  ·rw[if_neg e,if_neg (fun z=>e (h1.trans z))];exact⟨h1,h2,h3⟩
theorem KT.put{H:Hp}{kvs:List (List Key×V)}{xs:List (List Key×Addr×Value)}(r:KT H kvs xs)(k:List Key){b:Addr}{y:V}{u:Value}(hb:H b=some (.tup (k.map kV)))(ry:RelV y u):
  KT H (z6A kvs k y) (storedH xs k b u):=by
 have e:(kvs.any fun kv=>decide (kv.1=k))=(atKey xs k).isSome:=by
  rw[z5J,(r.val k).isSome_eq,dD]
 unfold z6A storedH
 rw[e]
 by_cases q:(atKey xs k).isSome=true
 ·rw[if_pos q,if_pos q];exact r.repl k ry
 ·rw[if_neg q,if_neg q];exact Paired.snoc r ⟨rfl,hb,ry⟩
theorem KT.keeps{H H':Hp}{kvs:List (List Key×V)}{xs:List (List Key×Addr×Value)}(r:KT H kvs xs)(ht:∀b ys,H b=some (.tup ys)->H' b=some (.tup ys)):KT H' kvs xs:=
 Paired.mapP r fun _ _ z=>⟨z.1,ht _ _ z.2.1,z.2.2⟩

section
variable{P:dN}{w:dO}{H:Hp}{h:Heap}{a:Addr}
theorem rd_of{u:HO}(ok:HOk P w H h)(e:Rd H a u):ObjOk P w H h a u:=e.ok ok
theorem dk_rd{kvs:List (Key×V)}(ok:HOk P w H h)(e:Rd H a (.dK kvs)):kvs.length≤sizeLine∧(a==sysModules)=false∧∃vs,KV kvs vs∧h.DictOf (z1h P w) a vs:=
 show ObjOk P w H h a (.dK kvs) from rd_of ok e
theorem dk_of{kvs:List (Key×V)}(ok:HOk P w H h)(e:H a=some (.dK kvs)):kvs.length≤sizeLine∧(a==sysModules)=false∧∃vs,KV kvs vs∧h.DictOf (z1h P w) a vs:=dk_rd ok (.inl e)
/-- a tracked tuple of ints and texts is a key -/
theorem y4x{ks:List Key}(ok:HOk P w H h)(e:H a=some (.tup (ks.map kV))):(tupleKind (z1h P w)).is h ks a:=by
 obtain⟨_,its,r,o,h1,h2,n,h3⟩:=(show ObjOk P w H h a (.tup (ks.map kV)) from ok a _ e)
 exact⟨o,its.toArray,n,h1,h2.1,h3,by simpa using z6Y r⟩
theorem dt_rd{kvs:List (List Key×V)}(ok:HOk P w H h)(e:Rd H a (.dT kvs)):kvs.length≤sizeLine∧(a==sysModules)=false ∧
  ∃xs,KT H kvs xs∧h.DictOfH (tupleKind (z1h P w)) a xs:=by
 obtain⟨z,y,xs,r,o,es,ep,h1,h2,h3,h4,h5⟩:=(show ObjOk P w H h a (.dT kvs) from rd_of ok e)
 refine⟨z,y,xs,r,o,es,ep,h1,h2,h3,h4,fun x hx=>?_,h5⟩
 have all:∀{l:List (List Key×V)} {m:List (List Key×Addr×Value)},KT H l m->∀x∈m,(tupleKind (z1h P w)).is h x.1 x.2.1:=by
  intro l m q
  induction q with
  |nil=>intro x hx;exact nomatch hx
  | @cons p q ps qs hq t ih=>
   intro x hx
   rcases aq.mp hx with e | hx
   ·subst e
    exact y4x ok (by rw[←hq.1];exact hq.2.1)
   ·exact ih x hx
 exact all r x hx
theorem dt_of{kvs:List (List Key×V)}(ok:HOk P w H h)(e:H a=some (.dT kvs)):kvs.length≤sizeLine∧(a==sysModules)=false ∧
  ∃xs,KT H kvs xs∧h.DictOfH (tupleKind (z1h P w)) a xs:=dt_rd ok (.inl e)
end

/-- what the dict at a holds at the key y -/
def DGet(H:Hp)(a:Addr)(y:V)(r:Option V):Prop:=
 (∃kvs k,Rd H a (.dK kvs)∧y=kV k∧r=z8l kvs k)∨∃kvs k b,Rd H a (.dT kvs)∧y = .ref b∧H b=some (.tup (k.map kV))∧r=z8l kvs k
/-- the heap behind a[y]=v -/
def DPut(H:Hp)(a:Addr)(y v:V)(H':Hp):Prop:=
 (∃kvs k,H a=some (.dK kvs)∧y=kV k∧kvs.length<sizeLine∧H'=upd H a (.dK (z6A kvs k v))) ∨
 ∃kvs k b,H a=some (.dT kvs)∧y = .ref b∧H b=some (.tup (k.map kV))∧kvs.length<sizeLine∧H'=upd H a (.dT (z6A kvs k v))
theorem DGet.k{H:Hp}{a:Addr}{kvs:List (Key×V)}{k:Key}(e:H a=some (.dK kvs)):DGet H a (kV k) (z8l kvs k):=.inl ⟨kvs,k,.inl e,rfl,rfl⟩
theorem DGet.t{H:Hp}{a b:Addr}{kvs:List (List Key×V)}{k:List Key}(e:H a=some (.dT kvs))(eb:H b=some (.tup (k.map kV))):DGet H a (.ref b) (z8l kvs k):=.inr ⟨kvs,k,b,.inl e,rfl,eb,rfl⟩
theorem DPut.k{H:Hp}{a:Addr}{kvs:List (Key×V)}{k:Key}{v:V}(e:H a=some (.dK kvs))(hl:kvs.length<sizeLine):DPut H a (kV k) v (upd H a (.dK (z6A kvs k v))):=.inl ⟨kvs,k,e,rfl,hl,rfl⟩
theorem DPut.t{H:Hp}{a b:Addr}{kvs:List (List Key×V)}{k:List Key}{v:V}(e:H a=some (.dT kvs))(eb:H b=some (.tup (k.map kV)))(hl:kvs.length<sizeLine):
  DPut H a (.ref b) v (upd H a (.dT (z6A kvs k v))):=.inr ⟨kvs,k,b,e,rfl,eb,hl,rfl⟩


section
variable{X:Cx}{pins:List (Addr×Obj)}{σ:St}{H:Hp}{s:dw}{a:Addr}{y v:V}{u r:Value}{o:Option V}{A:Around}{E:Value->dw->Prop}

theorem Inv.big(I:Inv X pins σ H s):sysModules<s.heap.objs.size:=by
 have h:mainGlobals<s.heap.objs.size:=(I.mod.glob.keeps I.bk).lt
 exact Nat.lt_trans (by decide) h

/-- y in d -/
theorem d_in{Q:Value->dw->Prop}(hu:A.units+1<cLine)(I:Inv X pins σ H s)(g:DGet H a y o)(ry:RelV y u)(h:∀s',Inv X pins σ H s'->Q (.bool o.isSome) s'):
  wpAny (model X.prog X.w) A (dX .In u (.ref a)) Q E s:=by
 rcases g with⟨kvs,k,e,ey,l⟩ | ⟨kvs,k,b,e,ey,eb,l⟩
 ·subst ey
  obtain⟨z,hd,vs,rel,dd⟩:=dk_rd I.hok e
  refine wpAny_in_of (kV_is ry) hd dd.mapOf ?_
  rw[←(rel.val k).isSome_eq,←l]
  exact h _ (I.tok _)
 ·subst ey
  cases (show u=Value.ref b from ry)
  obtain⟨z,hd,xs,rel,dd⟩:=dt_rd I.hok e
  refine wpAny_in_heap (tupleKind_room_in1 hu) (y4x I.hok eb) hd dd ?_
  have q:=(rel.val k).isSome_eq
  rw[dD]at q
  rw[←q,←l]
  exact h _ (I.tok _)
/-- a dict's object is replaced -/
theorem y2L{h':Heap}{t':Nat}{ob:HO}(I:Inv X pins σ H s)(mu:Mut (H a))(hs:Heap.SameBut a s.heap h')(he:∃q,h'.get? a=some q)(new:ObjOk X.prog X.w (upd H a ob) h' a ob):
  Inv X pins σ (upd H a ob) { s with heap:=h',toks:=t' }:=
 I.write (x:=a) (e:=a) mu (.inl rfl) (fun b q hb z=>(hs.2 b hb).trans z) he new
theorem dk_new{P:dN}{w:dO}{H':Hp}{h':Heap}{kvs:List (Key×V)}{vs:List (Key×Value)}(z:kvs.length≤sizeLine)(hd:(a==sysModules)=false)(rel:KV kvs vs)(dd:h'.DictOf (z1h P w) a vs):
  ObjOk P w H' h' a (.dK kvs):=⟨z,hd,vs,rel,dd⟩
/-- d[y]=v -/
theorem y4k{H':Hp}{Q:Unit->dw->Prop}(hu:A.units+1<cLine)(I:Inv X pins σ H s)(g:DPut H a y v H')(ry:RelV y u)(rv:RelV v r)(h:∀s',Inv X pins σ H' s'->Q () s'):
  wpAny (model X.prog X.w) A (setItem (.ref a) u r) Q E s:=by
 rcases g with⟨kvs,k,e,ey,l,eH⟩ | ⟨kvs,k,b,e,ey,eb,l,eH⟩
 ·subst ey eH
  obtain⟨z,hd,vs,rel,dd⟩:=dk_of I.hok e
  have hz:vs.length≤sizeLine:=by rw[←rel.length];exact z
  have hl:(z6A kvs k v).length≤sizeLine:=by have:=z4A kvs k v;omega
  refine wpAny_setItem_pairs (hsz:=hz) (kV_is ry) dd fun h' dd' hs=>h _ ?_
  have he:∃q,h'.get? a=some q:=let⟨q,_,_,hq,_⟩:=dd';⟨q,hq⟩
  exact y2L I (by rw[e];exact True.intro) hs he (dk_new hl hd (rel.put k rv) dd')
 ·subst ey eH
  cases (show u=Value.ref b from ry)
  obtain⟨z,hd,xs,rel,dd⟩:=dt_of I.hok e
  have hz:xs.length≤sizeLine:=by rw[←Paired.length rel];exact z
  have hl:(z6A kvs k v).length≤sizeLine:=by have:=z4A kvs k v;omega
  refine wpAny_setItem_heap (hsz:=hz) (tupleKind_room_in1 hu) (y4x I.hok eb) dd fun h' dd' hs=>h _ ?_
  obtain⟨q,es,ep,hq,h2,h3,h4,_,h5⟩:=dd'
  refine y2L I (by rw[e];exact True.intro) hs ⟨q,hq⟩ ⟨hl,hd,_,(rel.put k eb rv).keeps fun c ys ec=>?_,q,es,ep,hq,h2,h3,h4,h5⟩
  rw[z0n (ne_of ec e (fun z=>nomatch z))]
  exact ec
end

section
end


/-! ### readings and rules -/


/-- y in d,y not in d -/
def tDIn(ty td:TE):TE:=fun σ H Q=>ty σ H fun y H1=>td σ H1 fun x H2=>∃a o,x = .ref a∧DGet H2 a y o∧Q (.bl o.isSome) H2
/-- d[y]=v -/
def sDPut(td ty tv:TE):TS:=fun D σ H=>tv σ H fun v H1=>td σ H1 fun x H2=>ty σ H2 fun y H3=>∃a H4,x = .ref a∧DPut H3 a y v H4∧D.nx σ H4

section
variable{X:Cx}{o i value:Expr}{pos pos':Pos}{td ty tv:TE}
theorem pc_din(hu:X.A.units+1<cLine)(hi:PE X i ty)(ho:PE X o td):PC X .In i o (tDIn ty td):=by
 intro pins s σ H Q I h
 refine thn (hi pins s σ H _ I h) fun iv s1 ⟨y,H1,I1,ry,q1⟩=>thn (ho pins s1 σ H1 _ I1 q1) fun u s2 ⟨x,H2,I2,rx,a,ov,ex,g,q2⟩=>?_
 subst ex
 obtain rfl:u=Value.ref a:=rx
 exact d_in hu I2 g ry fun s3 I3=>⟨.bl ov.isSome,H2,I3,rfl,q2⟩
theorem ps_dput(hu:X.A.units+1<cLine)(ho:PE X o td)(hi:PE X i ty)(hv:PE X value tv)(hs:swapsWith value (some (.Subscript o i pos')) pos.line X.env=pure false):
  PS X (.Assign [.Subscript o i pos'] value pos) (sDPut td ty tv):=by
 intro pins s σ H D I h
 refine wpAny_Assign_Subscript (thn (hv pins s σ H _ I h) fun r s1 ⟨v,H1,I1,rv,q1⟩=>thn (ho pins s1 σ H1 _ I1 q1) fun u s2 ⟨x,H2,I2,rx,q2⟩=>thn (hi pins s2 σ H2 _ I2 q2) fun iv s3 ⟨y,H3,I3,ry,a,H4,ex,g,q3⟩=>?_) hs
 subst ex
 obtain rfl:u=Value.ref a:=rx
 exact y4k hu I3 g ry rv fun s4 I4=>⟨σ,H4,I4,q3⟩
end


/-! ### displays -/
theorem y4U{P:dN}{w:dO}{H:Hp}(h:Heap)(hb:sysModules<h.objs.size):ObjOk P w H (h.push { cls:=.type "dict",data:=.dict #[] }) h.objs.size (.dK []):=
 ⟨bn _,beq_eq_false_iff_ne.mpr (Ne.symm (ax hb)),[],.nil,Heap.DictOf.new h⟩
/-- {},to be a dict of the kind that is wanted -/
def tDNewK:TE:=fun _ H Q=>∀p,H p=none->Q (.ref p) (upd H p (.dK []))
section
variable{X:Cx}{pos:Pos}
theorem pe_dnewK:PE X (.Dict [] [] pos) tDNewK:=fun pins s σ H Q I h=>
 wpAny_Dict_empty ⟨.ref s.heap.objs.size,_,I.laid (a:=s.heap.objs.size) (o:=.dK []) (t':=s.toks) (fun _ _ q=>Heap.get?_push_of_some _ q) (ak _) (y4U s.heap I.big),rfl,h _ (I.hok.fresh (ak _))⟩
end




/-! ### methods -/
/-- a method call o.m(e) of a built-in,with one argument: what must be seen of the text -/
structure M1(X:Cx)(o:Expr)(m:Str)(apos:Pos)(e:Expr)(cpos:Pos):Prop where
 base:dS o m X.env (eval o X.env)=eval o X.env
 few:((dY cpos (starEach [e] X.env)).all (fun x=>!x.1)&&(backToKw cpos (keywordEach [] X.env)).all (fun x=>x.1.isSome)
  && decide (([e]:List Expr).length+([]:List d3).length+(if([]:List d3).isEmpty then 0 else 1)<30))=true
 line:(apos.endLine==cpos.line)=true
 trees:dY cpos (starEach [e] X.env)=[(false,eval e X.env)]
structure M2(X:Cx)(o:Expr)(m:Str)(apos:Pos)(e f:Expr)(cpos:Pos):Prop where
 base:dS o m X.env (eval o X.env)=eval o X.env
 few:((dY cpos (starEach [e,f] X.env)).all (fun x=>!x.1)&&(backToKw cpos (keywordEach [] X.env)).all (fun x=>x.1.isSome)
  && decide (([e,f]:List Expr).length+([]:List d3).length+(if([]:List d3).isEmpty then 0 else 1)<30))=true
 line:(apos.endLine==cpos.line)=true
 trees:dY cpos (starEach [e,f] X.env)=[(false,eval e X.env),(false,eval f X.env)]


section
end

section
end

/-! ### dict(d): a copy -/
section
end


section
end
end L2

/-! ### E1: list comprehensions over the hand layer -/
namespace L2
open PySem PySem.Spec PyProof.Rows

/-- the cells that a comprehension's block takes from around -/
def z2c(cells:List (Str×Addr)):List (Str×NameKind)->List (Str×Addr)->List (Str×Addr)
 |[],acc=>acc
 | (n,k)::r,acc=>if k == .free then z2c cells r ((n,(cells.lookup n).getD 0)::acc)else z2c cells r acc

theorem z4K{env:Env}(f:Str×NameKind->List (Str×Addr)->Sem (ForInStep (List (Str×Addr))))
  (hf:∀n k cs,f (n,k) cs=if k == .free then(do let a ←cellOf env n;pure (.yield ((n,a)::cs)))else pure (.yield cs)):
  ∀(names:List (Str×NameKind)) (acc:List (Str×Addr)),(∀n,(n,NameKind.free)∈names->∃c,env.cells.lookup n=some c)->forIn names acc f=pure (z2c env.cells names acc)
 |[],acc,_=>by rw[List.forIn_nil];rfl
 | (n,k)::r,acc,h=>by
  have hr:=z4K f hf r
  rw[List.forIn_cons,hf]
  unfold z2c
  by_cases hk:(k==NameKind.free)=true
  ·rw[if_pos hk,if_pos hk]
   have ek:k = .free:=eq_of_beq hk
   subst ek
   obtain⟨c,e⟩:=h n ag
   have e1:cellOf env n=pure c:=by unfold cellOf;rw[e]
   rw[e1,e]
   exact hr _ fun m hm=>h m (ac _ hm)
  ·rw[if_neg hk,if_neg hk]
   exact hr _ fun m hm=>h m (ac _ hm)

theorem z2z{scope:d5}{env:Env}(h:∀n,(n,NameKind.free)∈scope.names->∃c,env.cells.lookup n=some c):closureFor scope env=pure (z2c env.cells scope.names []):=by
 simp only[closureFor]
 rw[z4K _ (fun n k cs=>by cases hkc:k==NameKind.free <;> simp[hkc]) scope.names [] h]
 rfl

theorem z2N{cells:List (Str×Addr)}:∀(names:List (Str×NameKind)) (acc:List (Str×Addr)) {x:Str} {c:Addr},(x,c)∈z2c cells names acc->(x,c)∈acc∨((x,NameKind.free)∈names∧c=(cells.lookup x).getD 0)
 |[],_,_,_,h=>.inl h
 | (n,k)::r,acc,x,c,h=>by
  unfold z2c at h
  by_cases hk:(k==NameKind.free)=true
  ·rw[if_pos hk]at h
   have ek:k = .free:=eq_of_beq hk
   subst ek
   rcases z2N r _ h with z | ⟨z1,z2⟩
   ·rcases aq.mp z with q | q
    ·cases q
     exact .inr ⟨ag,rfl⟩
    ·exact .inl q
   ·exact .inr ⟨ac _ z1,z2⟩
  ·rw[if_neg hk]at h
   rcases z2N r _ h with z | ⟨z1,z2⟩
   ·exact .inl z
   ·exact .inr ⟨ac _ z1,z2⟩

theorem z1Q{α:Type}{x:Str}{c:α}:∀{l:List (Str×α)},(x,c)∈l->(l.lookup x).isSome=true
 | (n,d)::r,h=>by
  rw[bT]
  cases hb:x==n with
  |true=>rfl
  |false=>
   rcases aq.mp h with q | q
   ·cases q
    simp at hb
   ·exact z1Q q

theorem z4y{cells:List (Str×Addr)}{x:Str}:∀(names:List (Str×NameKind)) (acc:List (Str×Addr)),(x,NameKind.free)∈names∨(∃c,(x,c)∈acc)->∃c,(x,c)∈z2c cells names acc
 |[],_,h=>h.elim (fun z=>nomatch z) id
 | (n,k)::r,acc,h=>by
  unfold z2c
  by_cases hk:(k==NameKind.free)=true
  ·rw[if_pos hk]
   refine z4y r _ ?_
   rcases h with z | ⟨c,z⟩
   ·rcases aq.mp z with q | q
    ·cases q
     exact .inr ⟨_,ag⟩
    ·exact .inl q
   ·exact .inr ⟨c,ac _ z⟩
  ·rw[if_neg hk]
   refine z4y r _ ?_
   rcases h with z | z
   ·rcases aq.mp z with q | q
    ·cases q
     exact absurd (by rfl) hk
    ·exact .inl q
   ·exact .inr z

theorem z2y:∀(names:List (Str×NameKind)) (h:Heap) (acc:List (Str×Addr)) {x:Str} {c:Addr},(x,c)∈dR h.objs.size names acc →
  (x,c)∈acc∨((x,NameKind.cell)∈names∧h.objs.size≤c∧(pushCells h names).IsCell c none)
 |[],_,_,_,_,hm=>.inl hm
 | (n,k)::r,h,acc,x,c,hm=>by
  unfold dR at hm
  unfold pushCells
  by_cases hk:(k==NameKind.cell)=true
  ·rw[if_pos hk]at hm
   rw[if_pos hk]
   have ek:k = .cell:=eq_of_beq hk
   subst ek
   have e:(h.push { cls:=.type "cell",data:=.cell none }).objs.size=h.objs.size+1:=Heap.size_push ..
   rw[←e]at hm
   rcases z2y r _ _ hm with z | ⟨z1,z2,z3⟩
   ·rcases aq.mp z with q | q
    ·cases q
     exact .inr ⟨ag,ak _,⟨_,pushCells_keeps r _ _ _ (Heap.get?_push_size _ rfl),rfl⟩⟩
    ·exact .inl q
   ·exact .inr ⟨ac _ z1,by omega,z3⟩
  ·rw[if_neg hk]at hm
   rw[if_neg hk]
   rcases z2y r h acc hm with z | ⟨z1,z2,z3⟩
   ·exact .inl z
   ·exact .inr ⟨ac _ z1,z2,z3⟩

theorem z2o{x:Str}:∀(names:List (Str×NameKind)) (n:Nat) (acc:List (Str×Addr)),(x,NameKind.cell)∈names∨(∃c,(x,c)∈acc)->∃c,(x,c)∈dR n names acc
 |[],_,_,h=>h.elim (fun z=>nomatch z) id
 | (y,k)::r,n,acc,h=>by
  unfold dR
  by_cases hk:(k==NameKind.cell)=true
  ·rw[if_pos hk]
   refine z2o r _ _ ?_
   rcases h with z | ⟨c,z⟩
   ·rcases aq.mp z with q | q
    ·cases q
     exact .inr ⟨_,ag⟩
    ·exact .inl q
   ·exact .inr ⟨c,ac _ z⟩
  ·rw[if_neg hk]
   refine z2o r _ _ ?_
   rcases h with z | z
   ·rcases aq.mp z with q | q
    ·cases q
     exact absurd (by rfl) hk
    ·exact .inl q
   ·exact .inr z

theorem z2t(lo:Nat):∀(names:List (Str×NameKind)) (n:Nat) (acc:List (Str×Addr)),(∀x y c,(x,c)∈acc->(y,c)∈acc->lo≤c->x=y)->(∀p∈acc,p.2<n) →
  ∀x y c,(x,c)∈dR n names acc->(y,c)∈dR n names acc->lo≤c->x=y
 |[],_,_,h,_=>h
 | (m,k)::r,n,acc,h,hb=>by
  unfold dR
  by_cases hk:(k==NameKind.cell)=true
  ·rw[if_pos hk]
   refine z2t lo r (n+1) ((m,n)::acc) (fun x y c hx hy hc=>?_) fun p hp=>?_
   ·rcases aq.mp hx with q | q <;> rcases aq.mp hy with q' | q'
    ·cases q;cases q';rfl
    ·cases q
     exact absurd (hb _ q') (bt _)
    ·cases q'
     exact absurd (hb _ q) (bt _)
    ·exact h x y c q q' hc
   ·rcases aq.mp hp with q | q
    ·cases q;exact Nat.lt_succ_self _
    ·exact bI (hb p q)
  ·rw[if_neg hk]
   exact z2t lo r n acc h hb

/-- a name's kind within the block -/
theorem z3c(env:Env)(x:Str):∀names:List (Str×NameKind),
  (names.map fun(n,k)=>if(k==NameKind.free&&env.scope.kind == .function&&env.kindOf n==some .cell)then(n,NameKind.cell)else(n,k)).lookup x =
   (names.lookup x).map fun k=>if(k==NameKind.free&&env.scope.kind == .function&&env.kindOf x==some .cell)then NameKind.cell else k
 |[]=>rfl
 | (n,k)::r=>by
  have ih:=z3c env x r
  show List.lookup x ((if(k==NameKind.free&&env.scope.kind == .function&&env.kindOf n==some .cell)=true then(n,NameKind.cell)else(n,k))::_)=_
  cases hx:x==n with
  |true=>
   have e:=eq_of_beq hx
   subst e
   by_cases hc:(k==NameKind.free&&env.scope.kind == .function&&env.kindOf x==some .cell)=true
   ·rw[if_pos hc]
    simp only[bT,beq_self_eq_true,bz,hc,if_true]
   ·rw[if_neg hc]
    simp only[bT,beq_self_eq_true,bz]
    rw[if_neg hc]
  |false=>
   by_cases hc:(k==NameKind.free&&env.scope.kind == .function&&env.kindOf n==some .cell)=true
   ·rw[if_pos hc];simp only[bT,hx];exact ih
   ·rw[if_neg hc];simp only[bT,hx];exact ih

theorem z1Y{M:Model}{A:Around}{E:Value->dw->Prop}{s:dw}{scope:d5}{globals:Addr}{closure:List (Str×Addr)}{qual:Str}{env:Env}{Q:Env->dw->Prop}
  (hQ:Q (newEnv scope s.heap.objs.size globals (dR (s.heap.objs.size+1) scope.names closure) qual none .none (some env) builtinsNs)
   { s with heap:=pushCells (s.heap.push { cls:=.type "dict",data:=.dict #[] }) scope.names }):
  wpAny M A (newFunctionEnv scope globals closure [] qual none .none (some env)) Q E s:=by
 simp only[newFunctionEnv,dB,if_true]
 refine wpAny_bind (wpAny_alloc ?_)
 refine wpAny_bind (wpAny_layCells _ (fun name kind cells=>by cases hkc:kind==NameKind.cell <;> simp[hkc]) _ _ _ _ ?_)
 rw[show({ s with heap:=s.heap.push { cls:=.type "dict",data:=.dict #[] } }:dw).heap.objs.size=s.heap.objs.size+1 from Heap.size_push ..]
 refine wpAny_bind ?_
 rw[List.forIn_nil]
 exact wpAny_pure (wpAny_pure hQ)

/-! ### the block's context -/
/-- which names of around are taken;each slot of around is taken under its own name,or not seen -/
def capOk(out names:List (Str×NameKind)):Bool:=names.all fun p=>!(decide (p.2=NameKind.free))||(decide (out.lookup p.1=some NameKind.cell)||decide (out.lookup p.1=some NameKind.free))
def nmOk(N N':List Str)(names:List (Str×NameKind)):Bool:=(ar N.length).all fun i=>match N'[i]? with
 |some y=>decide (names.lookup y=none)||(decide (names.lookup y=some NameKind.free)&&decide (N[i]? = some y))
 |none=>false
structure CompScope(N:List Str)(out:List (Str×NameKind))(N':List Str)(k:Nat)(sc:d5):Prop where
 kind:sc.kind = .function
 len:N'.length=N.length+k
 cap:capOk out sc.names=true
 nm:nmOk N N' sc.names=true
 uniq:sc.names.all (fun p=>decide (sc.names.lookup p.1=some p.2))=true

def z0z(X:Cx)(N':List Str)(sc:d5)(s:dw)(H:Hp)(fp:List Addr)(pins:List (Addr×Obj))(E:Value->dw->Prop):Cx where
 prog:=X.prog
 w:=X.w
 K:=X.K
 mg:=X.mg
 base:=X.base
 A:=X.A
 N:=N'
 s₀:=s
 H₀:=H
 env:=compEnvC sc (dR (s.heap.objs.size+1) sc.names (z2c X.env.cells sc.names [])) s.heap.objs.size X.env
 outer:=X.stack
 stack:=X.stack
 ex:=fp
 fn:=fun x=>decide (sc.names.lookup x=some .cell)
 calm:=X.calm
 pn:=X.pn++pins
 xe:=E

section
variable{X:Cx}{N':List Str}{k:Nat}{sc:d5}{pins:List (Addr×Obj)}{σ:St}{H:Hp}{s:dw}{fp:List Addr}{E:Value->dw->Prop}

theorem CompScope.fr(S:CompScope X.N X.env.scope.names N' k sc){x:Str}(h:(x,NameKind.free)∈sc.names):X.env.kindOf x=some .cell∨X.env.kindOf x=some .free:=by
 have q:=aK.mp S.cap _ h
 simp at q
 exact q
theorem CompScope.look{N:List Str}{out:List (Str×NameKind)}(S:CompScope N out N' k sc){x:Str}{kd:NameKind}(h:(x,kd)∈sc.names):sc.names.lookup x=some kd:=by
 have q:=aK.mp S.uniq _ h
 exact of_decide_eq_true q

theorem y5w(S:CompScope X.N X.env.scope.names N' k sc)(I:Inv X pins σ H s)(hf:∀b∈fp,z7x X pins H b)(hlt:∀b∈fp,b<s.heap.objs.size):
  Inv (z0z X N' sc s H fp pins E) [] (σ++ad k none) H { s with heap:=pushCells (s.heap.push { cls:=.type "dict",data:=.dict #[] }) sc.names }:=by
 have keeps:∀b o,s.heap.get? b=some o->(pushCells (s.heap.push { cls:=.type "dict",data:=.dict #[] }) sc.names).get? b=some o:=fun b o e=>pushCells_keeps _ _ _ _ (Heap.get?_push_of_some _ e)
 have hsz:(s.heap.push { cls:=.type "dict",data:=.dict #[] }).objs.size=s.heap.objs.size+1:=Heap.size_push ..
 have hns:(pushCells (s.heap.push { cls:=.type "dict",data:=.dict #[] }) sc.names).Ns s.heap.objs.size (fun _=>none):=(Heap.Ns.new s.heap (.type "dict")).keeps (pushCells_keeps _ _)
 have frc:∀x,(x,NameKind.free)∈sc.names->∃c,X.env.cells.lookup x=some c:=fun x h=>I.ok.has x (S.fr h)
 -- what a cell of the block is
 have cm:∀x c,(x,c)∈dR (s.heap.objs.size+1) sc.names (z2c X.env.cells sc.names []) →
   ((x,NameKind.cell)∈sc.names∧s.heap.objs.size+1≤c∧(pushCells (s.heap.push { cls:=.type "dict",data:=.dict #[] }) sc.names).IsCell c none)∨((x,NameKind.free)∈sc.names∧X.env.cells.lookup x=some c):=fun x c h=>by
  rw[←hsz]at h
  rcases z2y _ _ _ h with z | ⟨z1,z2,z3⟩
  ·rcases z2N _ _ z with z | ⟨z1,z2⟩
   ·exact nomatch z
   ·obtain⟨c',e⟩:=frc x z1
    rw[e]at z2
    cases z2
    exact .inr ⟨z1,e⟩
  ·exact .inl ⟨z1,by omega,z3⟩
 have cl:∀x c,(dR (s.heap.objs.size+1) sc.names (z2c X.env.cells sc.names [])).lookup x=some c->(x,c)∈dR (s.heap.objs.size+1) sc.names (z2c X.env.cells sc.names []):=fun x c h=>PySem.mem_of_lookup h
 have clt:∀x c,X.env.cells.lookup x=some c->c<s.heap.objs.size:=fun x c h=>by
  obtain⟨v,q⟩:=I.cell x c h
  exact q.lt
 have has:∀x,(x,NameKind.cell)∈sc.names∨(x,NameKind.free)∈sc.names->∃c,(dR (s.heap.objs.size+1) sc.names (z2c X.env.cells sc.names [])).lookup x=some c:=fun x h=>by
  obtain⟨c,hc⟩:=z2o (x:=x) sc.names (s.heap.objs.size+1) (z2c X.env.cells sc.names []) (h.imp id fun z=>z4y _ _ (.inl z))
  exact ca.mp (z1Q hc)
 have kd:∀x kk,(relabel sc X.env).names.lookup x=some kk->∃k0,sc.names.lookup x=some k0∧(kk=k0∨(k0 = .free∧kk = .cell)):=fun x kk h=>by
  have q:=z3c X.env x sc.names
  have h':(sc.names.map fun(n,k)=>if(k==NameKind.free&&X.env.scope.kind == .function&&X.env.kindOf n==some .cell)then(n,NameKind.cell)else(n,k)).lookup x=some kk:=h
  rw[q]at h'
  cases e:sc.names.lookup x with
  |none=>rw[e]at h';cases h'
  |some k0=>
   rw[e]at h'
   simp only[bz,Option.some.injEq]at h'
   refine⟨k0,rfl,?_⟩
   split at h'
   ·rename_i hc
    simp at hc
    exact .inr ⟨hc.1.1,h'.symm⟩
   ·exact .inl h'.symm
 refine⟨⟨I.ok.mod,S.kind,I.ok.glob,I.ok.blt,ak _,?inj,?has,?cab,I.ok.hd,I.ok.frames,.inl rfl,?exf,I.bs,aR I.ok.bsz I.sz,?noex,?exfs,I.stack,I.stkFree⟩,
  rfl,I.bare,Un.kept keeps,⟨_,hns,?loc⟩,?cell,I.hok.fresh (ak _),?freeC,?pin,I.hok.kept keeps,?len⟩
 case inj=>
  intro x y c h1 h2
  rcases cm x c (cl x c h1)with⟨_,l1,_⟩ | ⟨m1,e1⟩
  ·rcases cm y c (cl y c h2)with⟨_,l2,_⟩ | ⟨m2,e2⟩
   ·refine z2t (s.heap.objs.size+1) sc.names (s.heap.objs.size+1) (z2c X.env.cells sc.names []) (fun x y c hx _ hc=>?_) (fun p hp=>?_) x y c (cl x c h1) (cl y c h2) l1
    ·rcases z2N _ _ hx with z | ⟨z1,z2⟩
     ·exact nomatch z
     ·obtain⟨c',e⟩:=frc x z1
      rw[e]at z2
      have z3:c=c':=z2
      subst z3
      exact absurd (clt x c e) (bP.mpr (bJ hc))
    ·obtain⟨x,c⟩:=p
     rcases z2N _ _ hp with z | ⟨z1,z2⟩
     ·exact nomatch z
     ·obtain⟨c',e⟩:=frc x z1
      rw[e]at z2
      have z3:c=c':=z2
      subst z3
      exact bI (clt x c e)
   ·exact absurd (clt y c e2) (bP.mpr (bJ l1))
  ·rcases cm y c (cl y c h2)with⟨_,l2,_⟩ | ⟨m2,e2⟩
   ·exact absurd (clt x c e1) (bP.mpr (bJ l2))
   ·exact I.ok.inj x y c e1 e2
 case has=>
  intro x hx
  refine has x ?_
  rcases hx with hx | hx
  ·obtain⟨k0,e,h⟩:=kd x _ hx
   rcases h with h | ⟨h,_⟩
   ·subst h;exact .inl (PySem.mem_of_lookup e)
   ·subst h;exact .inr (PySem.mem_of_lookup e)
  ·obtain⟨k0,e,h⟩:=kd x _ hx
   rcases h with h | ⟨_,h⟩
   ·subst h;exact .inr (PySem.mem_of_lookup e)
   ·cases h
 case cab=>
  intro x c hfn h
  have hfn':sc.names.lookup x=some NameKind.cell:=of_decide_eq_true hfn
  rcases cm x c (cl x c h)with⟨_,l,_⟩ | ⟨m,_⟩
  ·exact bJ l
  ·rw[S.look m]at hfn';cases hfn'
 case exf=>
  intro b hb
  refine⟨ax (hlt b hb),fun x c h=>?_⟩
  rcases cm x c (cl x c h)with⟨_,l,_⟩ | ⟨_,e⟩
  ·intro z
   subst z
   exact absurd (hlt c hb) (bP.mpr (bJ l))
  ·exact(hf b hb).2.2.2.2.1 x c e
 case noex=>
  intro b o e hb
  rcases (hf b hb).2.2.2.1 with z | z
  ·exact I.ok.noex b o e z
  ·exact absurd (az (Heap.lt_size e) (aR I.ok.bsz z)) (bt _)
 case exfs=>exact fun b hb z=>(aq.mp (I.stkSub b z)).elim (hf b hb).2.1 (hf b hb).2.2.1
 case loc=>
  intro i y v h1 h2 h3
  have hl:=I.len
  by_cases hi:i<σ.length
  ·rw[aN hi]at h2
   have q:=aK.mp S.nm i (aD.mpr (by omega))
   have h1':N'[i]? = some y:=h1
   simp only[h1',Bool.or_eq_true,aF,decide_eq_true_eq]at q
   rcases q with q | ⟨q1,q2⟩
   ·exfalso
    rcases h3 with z | z | z <;> (obtain⟨k0,e,_⟩:=kd y _ z;rw[q]at e;cases e)
   ·have hm:=PySem.mem_of_lookup q1
    obtain⟨m,hn,hloc⟩:=I.loc
    have kk:=S.fr hm
    obtain⟨u,r,l⟩:=hloc i y v q2 h2 (kk.elim (fun z=>.inr (.inl z)) fun z=>.inr (.inr z))
    refine⟨u,r,.inr ⟨?_,?_⟩⟩
    ·rcases h3 with z | z | z
     ·obtain⟨k0,e,h⟩:=kd y _ z
      rw[q1]at e
      cases e
      rcases h with h | ⟨_,h⟩ <;> cases h
     ·exact .inl z
     ·exact .inr z
    ·rcases l with⟨l,_⟩ | ⟨_,c,ec,hc⟩
     ·rcases kk with z | z <;> (rw[z]at l;cases l)
     ·obtain⟨c',e'⟩:=has y (.inr hm)
      refine⟨c',e',?_⟩
      rcases cm y c' (cl y c' e')with⟨m',_⟩ | ⟨_,e2⟩
      ·have:=S.look m'
       rw[q1]at this
       cases this
      ·rw[ec]at e2
       cases e2
       exact hc.keeps keeps
  ·rw[bp (by omega),bw]at h2
   split at h2 <;> cases h2
 case cell=>
  intro x c h
  rcases cm x c (cl x c h)with⟨_,_,q⟩ | ⟨_,e⟩
  ·exact⟨_,q⟩
  ·obtain⟨v,q⟩:=I.cell x c e
   exact⟨v,q.keeps keeps⟩
 case freeC=>
  intro x c h
  rcases cm x c (cl x c h)with⟨_,l,_⟩ | ⟨_,e⟩
  ·exact I.hok.fresh (bJ l)
  ·exact I.freeC x c e
 case pin=>
  intro p hp
  have hp':p∈X.pn++pins:=by
   rcases aw.mp hp with z | z
   ·exact z
   ·exact nomatch z
  obtain⟨e,n,ne,nf,d⟩:=I.pin p hp'
  exact⟨keeps _ _ e,n,ax (Heap.lt_size e),fun z=>(aq.mp (I.stkSub p.1 z)).elim ne nf,d⟩
 case len=>
  show _=N'.length
  rw[av,du,S.len,I.len]

/-- behind the block -/
theorem z6R{σ':St}{H':Hp}{s':dw}(I:Inv X pins σ H s)(hf:∀b∈fp,z7x X pins H b)(J:Inv (z0z X N' sc s H fp pins E) [] σ' H' s'):Inv X pins σ H' s':=
 I.call' J.os J.base J.hok J.bare fun b hb=>⟨(hf b hb).2.2.2.1,(hf b hb).2.1,(hf b hb).2.2.2.2.1,(hf b hb).2.2.2.2.2⟩
/-- the block's names are let go -/
theorem y3n{H':Hp}{s':dw}{h':Heap}(I:Inv X pins σ H s)(J:Inv X pins σ H' s')(hn:H' s.heap.objs.size=none)(hb:Heap.SameBut s.heap.objs.size s'.heap h'):Inv X pins σ H' { s' with heap:=h' }:=by
 refine J.turned (t':=s'.toks) (it:=s.heap.objs.size) (fun b o hne e=>(hb.2 b hne).trans e) hn (cA I.lt) (.inr I.sz) (fun x c e=>?_) fun p hp=>?_
 ·obtain⟨v,q⟩:=I.cell x c e
  exact ax q.lt
 ·exact ax (Heap.lt_size (I.pin p hp).1)
end

/-! ### the loop -/
theorem z7r{prog:dN}{w:dO}{A:Around}{R:Result->dw->Prop}{s:dw}{elt target iter:Expr}{ifs:List Expr}{scope:d5}{pos:Pos}{it acc:Value}{env:Env}(I:Nat->dw->Prop)
  (turn:∀n s,I n s->wpAny (model prog w) A (pyNext it) (fun r s₁=>match r with
   |none=>R (.ok .next) s₁
   |some v=>wpAny (model prog w) A (letOwnedTupleGo target it v) (fun _ s₁'=>wpAny (model prog w) A (d4 target env v) (fun _ s₂=>
     wpAny (model prog w) A (forIn ifs true fun c r=>if r=true then do let ok ←isTrue c env (eval c env);pure (ForInStep.yield ok)else pure (ForInStep.yield r)) (fun ok s₃=>
      if ok=true then wpAny (model prog w) A (eval elt env) (fun x s₄=>
       wpAny (model prog w) A (call (.builtin "list.append") [acc,x]) (fun _ s₅=>∃m,m<n∧I m s₅) (notedBy (model prog w) A env fun e s'=>R (.error e) s') s₄) (notedBy (model prog w) A env fun e s'=>R (.error e) s') s₃
      else ∃m,m<n∧I m s₃) (notedBy (model prog w) A env fun e s'=>R (.error e) s') s₂) (notedBy (model prog w) A env fun e s'=>R (.error e) s') s₁') (notedBy (model prog w) A env fun e s'=>R (.error e) s') s₁) (notedBy (model prog w) A env fun e s'=>R (.error e) s') s)
  (n:Nat) (h:I n s):
  codeAny (model prog w) A (.compLoop (.ListComp elt [⟨target,iter,ifs,0⟩] scope pos) 0 it acc env) R s:=by
 refine codeAny_loop rfl I (fun n s hI=>?_) n h
 show wpAny _ A ((compTurn (.ListComp elt [⟨target,iter,ifs,0⟩] scope pos) 0 it acc env).onRaise (fun x=>do noteFrame x env;theTreesLotGoes x)) _ _ s
 refine wpAny_noted ?_
 rw[compTurn_list]
 refine wpAny_bind (wpAny_standAt (wpAny_bind (wpAny_mono (turn n s hI) (fun r s₁ h₁=>?_) fun _ _ h'=>h')))
 cases r with
 |none=>exact wpAny_pure h₁
 |some v=>
  refine wpAny_bind (wpAny_mono h₁ (fun _ s₁' h₁'=>?_) fun _ _ h'=>h')
  refine wpAny_bind (wpAny_mono h₁' (fun _ s₂ h₂=>wpAny_bind (wpAny_mono h₂ (fun ok s₃ h₃=>?_) fun _ _ h'=>h')) fun _ _ h'=>h')
  cases ok with
  |false=>exact wpAny_pure ⟨rfl,h₃⟩
  |true=>
   exact wpAny_bind (wpAny_bind (wpAny_mono h₃ (fun x s₄ h₄=>wpAny_bind (wpAny_mono h₄ (fun _ s₅ h₅=>wpAny_pure (wpAny_pure ⟨rfl,h₅⟩)) fun _ _ h'=>h')) fun _ _ h'=>h'))

/-- the tests of a clause -/
def y4y(X:Cx)(ifs:List Expr)(t:TT):Prop:=
 ∀(pins:List (Addr×Obj)) (s:dw) (σ:St) (H:Hp) (Q:Bool->Hp->Prop),Inv X pins σ H s->t σ H Q →
  wpAny (model X.prog X.w) X.A (forIn ifs true fun c r=>if r=true then do let ok ←isTrue c X.env (eval c X.env);pure (ForInStep.yield ok)else pure (ForInStep.yield r)) (TP X pins σ Q) X.xe s
def tYes:TT:=fun _ H Q=>Q true H
theorem y5r{X:Cx}:y4y X [] tYes:=fun _ _ _ H _ I h=>wpAny_tests_nil ⟨H,I,h⟩
theorem y4C{X:Cx}{c:Expr}{t:TT}(h:PT X c t):y4y X [c] t:=fun pins s σ H Q I hw=>wpAny_tests_one (h pins s σ H Q I hw)

/-- the reading of a comprehension: W is the invariant by the turn and a measure,the result grows at D -/
def y4B(wi:TI)(g:TG)(tc:TT)(te:TE)(k:Nat):TE:=fun σ H Q=>wi σ H fun J H1=>∀D,H1 D=none →
 ∃W:Nat->Nat->St->Hp->Prop,(∃m,W 0 m (σ++ad k none) (upd H1 D (.lst [])))∧∀i m σ' H',W i m σ' H' →
  (J.stop i H'∧Q (.ref D) H')∨(J.go i H'∧∃N:St->Hp->Prop,(∀σ'' H'',N σ'' H''->∃m',m'<m∧W (i+1) m' σ'' H'') ∧
   ∀x H2,J.yld i H' x H2->g x σ' H2 fun σ2 H3=>tc σ2 H3 fun b H4=>if b=true then te σ2 H4 fun y H5=>∃ys,H5 D=some (.lst ys)∧ys.length<sizeLine∧N σ2 (upd H5 D (.lst (ys++[y])))else N σ2 H4)

/-- the parts of a comprehension,in its block -/
structure PComp(X:Cx)(N':List Str)(sc:d5)(tg:Expr)(ifs:List Expr)(elt:Expr)(g:TG)(tc:TT)(te:TE):Prop where
 pg:∀s H fp pins E,PG (z0z X N' sc s H fp pins E) tg g
 pt:∀s H fp pins E,y4y (z0z X N' sc s H fp pins E) ifs tc
 pe:∀s H fp pins E,PE (z0z X N' sc s H fp pins E) elt te

section
variable{X:Cx}{N':List Str}{k:Nat}{sc:d5}{tg iter elt:Expr}{ifs:List Expr}{pos:Pos}{g:TG}{tc:TT}{te:TE}{wi:TI}

theorem z5A{pins:List (Addr×Obj)}{σ:St}{H:Hp}{s:dw}{J:It}{fp:List Addr}{it:Addr}{tn:Nat->Heap->Prop}{Q:VK}{E:Value->dw->Prop}{RR:Value->Addr->Result->dw->Prop}
  (hc:X.calm=true) (S:CompScope X.N X.env.scope.names N' k sc) {PC:dw->Hp->(Value->dw->Prop)->Prop} (P:∀s H E,PC s H E->PG (z0z X N' sc s H fp pins E) tg g∧y4y (z0z X N' sc s H fp pins E) ifs tc∧PE (z0z X N' sc s H fp pins E) elt te)
  (hP:∀D s3 H3,Inv X pins σ H3 s3->(∀b∈fp,z7x X pins H3 b)->PC s3 H3 (notedBy (model X.prog X.w) X.A (compEnvC sc (dR (s3.heap.objs.size+1) sc.names (z2c X.env.cells sc.names [])) s3.heap.objs.size X.env) fun e s'=>RR (.ref D) s3.heap.objs.size (.error e) s')) (I:Inv X pins σ H s) (T:Turn X.prog X.w X.K tg J fp it tn) (st:tn 0 s.heap) (hf:∀b∈fp,z7x X pins H b)
  (hW:∀D,H D=none->∃W:Nat->Nat->St->Hp->Prop,(∃m,W 0 m (σ++ad k none) (upd H D (.lst [])))∧∀i m σ' H',W i m σ' H' →
   (J.stop i H'∧Q (.ref D) H')∨(J.go i H'∧∃N:St->Hp->Prop,(∀σ'' H'',N σ'' H''->∃m',m'<m∧W (i+1) m' σ'' H'') ∧
    ∀x H2,J.yld i H' x H2->g x σ' H2 fun σ2 H3=>tc σ2 H3 fun b H4=>if b=true then te σ2 H4 fun y H5=>∃ys,H5 D=some (.lst ys)∧ys.length<sizeLine∧N σ2 (upd H5 D (.lst (ys++[y])))else N σ2 H4))
  (hR:∀D s3 H3 σ' H' s' E',Inv X pins σ H3 s3->(∀b∈fp,z7x X pins H3 b)->Inv (z0z X N' sc s3 H3 fp pins E') [] σ' H' s'->Q (.ref D) H'->RR (.ref D) s3.heap.objs.size (.ok .next) s'):
  wpAny (model X.prog X.w) X.A (newList []) (fun acc s₃=>wpAny (model X.prog X.w) X.A (newFunctionEnv sc X.env.globals (z2c X.env.cells sc.names []) [] X.env.qual none .none (some X.env)) (fun cenv s₄=>
   codeAny (model X.prog X.w) X.A (.compStart (.ListComp elt [⟨tg,iter,ifs,0⟩] sc pos) 0 (.ref it) acc { cenv with scope:=relabel sc X.env }) (RR acc cenv.locals) s₄) E s₃) E s:=by
 obtain⟨W,⟨m0,w0⟩,step⟩:=hW s.heap.objs.size (I.hok.fresh (ak _))
 have I3:Inv X pins σ (upd H s.heap.objs.size (.lst [])) { s with heap:=s.heap.push { cls:=.type "list",data:=.seq ([]:List Value).toArray },toks:=s.toks }:=I.lnew (t':=s.toks) .nil (bn _)
 have lt0:∀b∈fp,b<s.heap.objs.size:=fun b hb=>by
  obtain⟨o,e,_⟩:=T.obj 0 _ st b hb
  exact Heap.lt_size e
 have hf3:∀b∈fp,z7x X pins (upd H s.heap.objs.size (.lst [])) b:=fun b hb=>⟨by rw[z0n (ax (lt0 b hb))];exact(hf b hb).1,(hf b hb).2⟩
 have lt3:∀b∈fp,b<(s.heap.push { cls:=.type "list",data:=.seq ([]:List Value).toArray }).objs.size:=fun b hb=>by
  rw[Heap.size_push]
  exact bI (lt0 b hb)
 refine wpAny_newObj_type (z1Y ?_)
 generalize hs3:({ s with heap:=s.heap.push { cls:=.type "list",data:=.seq ([]:List Value).toArray },toks:=s.toks }:dw)=s3 at I3
 have hsh:s3.heap=s.heap.push { cls:=.type "list",data:=.seq ([]:List Value).toArray }:=by rw[←hs3]
 rw[←hsh]at lt3
 have st3:tn 0 s3.heap:=T.keep _ _ _ st fun b _ o e=>by rw[hsh];exact Heap.get?_push_of_some _ e
 show codeAny _ _ (.compStart _ 0 (.ref it) (.ref s.heap.objs.size) (compEnvC sc (dR (s3.heap.objs.size+1) sc.names (z2c X.env.cells sc.names [])) s3.heap.objs.size X.env)) (RR (.ref s.heap.objs.size) s3.heap.objs.size)
  { s3 with heap:=pushCells (s3.heap.push { cls:=.type "dict",data:=.dict #[] }) sc.names }
 generalize hD:s.heap.objs.size=D at *
 generalize hEn:(notedBy (model X.prog X.w) X.A (compEnvC sc (dR (s3.heap.objs.size+1) sc.names (z2c X.env.cells sc.names [])) s3.heap.objs.size X.env) fun e s'=>RR (.ref D) s3.heap.objs.size (.error e) s')=En
 have I4:Inv (z0z X N' sc s3 (upd H D (.lst [])) fp pins En) [] (σ++ad k none) (upd H D (.lst [])) { s3 with heap:=pushCells (s3.heap.push { cls:=.type "dict",data:=.dict #[] }) sc.names }:=y5w S I3 hf3 lt3
 have st4:tn 0 (pushCells (s3.heap.push { cls:=.type "dict",data:=.dict #[] }) sc.names):=T.keep _ _ _ st3 fun b _ o e=>pushCells_keeps _ _ _ _ (Heap.get?_push_of_some _ e)
 have stat:∀{H':Hp},(∀b∈fp,H' b=none)->∀b∈fp,z7x (z0z X N' sc s3 (upd H D (.lst [])) fp pins En) [] H' b:=fun hn b hb=>
  ⟨hn b hb,(I4.ok.exf b hb).1,I4.ok.exfs b hb,.inl hb,(I4.ok.exf b hb).2,fun p hp=>(hf3 b hb).2.2.2.2.2 p (by
   rcases aw.mp hp with z | z
   ·exact z
   ·exact nomatch z)⟩
 obtain⟨Pg,Pt,Pe⟩:=P s3 (upd H D (.lst [])) En (by rw[←hEn];exact hP D s3 _ I3 hf3)
 have loop:codeAny (model X.prog X.w) X.A (.compLoop (.ListComp elt [⟨tg,iter,ifs,0⟩] sc pos) 0 (.ref it) (.ref D) (z0z X N' sc s3 (upd H D (.lst [])) fp pins En).env) (RR (.ref D) s3.heap.objs.size)
   { s3 with heap:=pushCells (s3.heap.push { cls:=.type "dict",data:=.dict #[] }) sc.names }:=by
  refine z7r (fun n s'=>∃i σ' H',Inv (z0z X N' sc s3 (upd H D (.lst [])) fp pins En) [] σ' H' s'∧tn i s'.heap∧(∀b∈fp,H' b=none)∧W i n σ' H') ?_ m0 ⟨0,_,_,I4,st4,fun b hb=>(hf3 b hb).1,w0⟩
  have eEn:(notedBy (model X.prog X.w) X.A (z0z X N' sc s3 (upd H D (.lst [])) fp pins En).env fun e s'=>RR (.ref D) s3.heap.objs.size (.error e) s')=En:=hEn
  rw[eEn]
  rintro n s5 ⟨i,σ5,H5,I5,st5,fr5,w5⟩
  rcases step i n σ5 H5 w5 with⟨stop,qn⟩ | ⟨go,N,hN,turn⟩
  ·refine thn (T.done (z0z X N' sc s3 (upd H D (.lst [])) fp pins En) rfl rfl rfl hc i [] s5 σ5 H5 En I5 (stat fr5) st5 stop) fun r s6 ⟨hr,I6⟩=>?_
   subst hr
   exact hR D s3 _ σ5 H5 s6 En I3 hf3 I6 qn
  ·refine thn (T.item (z0z X N' sc s3 (upd H D (.lst [])) fp pins En) rfl rfl rfl hc i [] s5 σ5 H5 En I5 (stat fr5) st5 go) fun r s6 ⟨u,hr,h6⟩=>?_
   subst hr
   refine thn h6 fun _ s7 ⟨x,H7,I7,r7,y7,st7,fr7⟩=>?_
   have I7':=I7.pinned (stat fr7) (T.obj _ _ st7)
   have back:∀{σ9:St} {H9:Hp} {s9:dw},Inv (z0z X N' sc s3 (upd H D (.lst [])) fp pins En) ([]++z6I fp s7.heap) σ9 H9 s9->N σ9 H9 →
     ∃m,m<n∧∃i σ' H',Inv (z0z X N' sc s3 (upd H D (.lst [])) fp pins En) [] σ' H' s9∧tn i s9.heap∧(∀b∈fp,H' b=none)∧W i m σ' H':=fun {σ9 H9 s9} I9 n9=>by
    obtain⟨m',hm,w9⟩:=hN σ9 H9 n9
    refine⟨m',hm,i+1,σ9,H9,I9.unpinned,T.keep _ _ _ st7 fun b hb o e=>(I9.pin (b,o) (au _ (au _ (z2W hb e)))).1,fun b hb=>?_,w9⟩
    obtain⟨o,e,d⟩:=T.obj _ _ st7 b hb
    exact(I9.pin (b,o) (au _ (au _ (z2W hb e)))).2.1
   refine thn (Pg _ s7 σ5 H7 x u _ I7' r7 (turn x H7 y7)) fun _ s8 ⟨σ8,H8,I8,q8⟩=>?_
   refine thn (Pt _ s8 σ8 H8 _ I8 q8) fun ok s9 ⟨H9,I9,q9⟩=>?_
   cases ok with
   |false=>
    rw[if_neg aj]at q9
    rw[if_neg aj]
    exact back I9 q9
   |true=>
    rw[if_pos rfl]at q9
    rw[if_pos rfl]
    refine thn (Pe _ s9 σ8 H9 _ I9 q9) fun y s10 ⟨yv,H10,I10,r10,ys,hys,hl,q10⟩=>?_
    refine thn (z4X _ s10 σ8 H10 (.ref D) [yv] (.ref D) [y] (fun _ H'=>N σ8 H') I10 rfl (.cons r10 .nil) ⟨D,ys,yv,rfl,rfl,hys,hl,q10⟩) fun _ s11 ⟨_,H11,I11,_,q11⟩=>?_
    exact back I11 q11
 exact codeAny_compStart_list loop (T.self X.A 0 _ _ _ st4 loop)

theorem CompScope.names'{N:List Str}{out:List (Str×NameKind)}(S:CompScope N out N' k sc):∀x∈sc.names,x.2 = .local->sc.names.lookup x.1=some .local:=fun x hx e=>by
 obtain⟨n,kd⟩:=x
 have e':kd = .local:=e
 subst e'
 exact S.look hx

theorem y1c(hc:X.calm=true)(S:CompScope X.N X.env.scope.names N' k sc)(hi:PI X tg iter wi)(P:PComp X N' sc tg ifs elt g tc te)(hs:∀x,foldedSetIterable iter X.env x=pure x:=by intro _;rfl):
  PE X (.ListComp elt [⟨tg,iter,ifs,0⟩] sc pos) (y4B wi g tc te k):=by
 intro pins s σ H Q I h
 rw[eval_ListComp]
 refine wpAny_comprehension_free (use:=none) rfl hs (z2z fun n hn=>I.ok.has n (S.fr hn)) S.kind S.names' (thn (hi pins s σ H _ I h) fun v s1 h1=>thn h1 fun itv s2 h2=>?_)
 obtain⟨it,fp,tn,J,H2,e,I2,T,st2,f2,hW⟩:=h2
 subst e
 refine z5A (Q:=Q) (RR:=fun acc C=>compPost (model X.prog X.w) X.A X.xe none (EP X pins σ Q) acc C) (PC:=fun _ _ _=>True) hc S (fun s H E _=>⟨P.pg s H _ _ E,P.pt s H _ _ E,P.pe s H _ _ E⟩) (fun _ _ _ _ _=>trivial) I2 T st2 f2 hW ?_
 intro D s3 H3 σ' H' s' E' I3 f3 J' q
 obtain⟨m,hn,_⟩:=J'.loc
 exact⟨m,hn,fun h' hb=>⟨.ref D,H',y3n I3 (z6R I3 f3 J') J'.free hb,rfl,q⟩⟩

/-- name=[..],stored ahead of the block's end -/
theorem y0Q{i:Nat}{y:Str}{py spos:Pos}(hc:X.calm=true)(S:CompScope X.N X.env.scope.names N' k sc)(hN:X.N.Nodup)(hy:X.N[i]? = some y)(hyl:X.env.scope.names.lookup y=some .local)(hi:PI X tg iter wi)(P:PComp X N' sc tg ifs elt g tc te)
  (hsw:swapsWith (.ListComp elt [⟨tg,iter,ifs,0⟩] sc pos) (some (.Name y py)) spos.line X.env=pure true:=by rfl) (hs:∀x,foldedSetIterable iter X.env x=pure x:=by intro _;rfl):
  PS X (.Assign [.Name y py] (.ListComp elt [⟨tg,iter,ifs,0⟩] sc pos) spos) (tAsg (y4B wi g tc te k) (z2B i)):=by
 intro pins s σ H D I h
 rw[exec_Assign_Name_used _ _ _ _ hsw]
 refine wpAny_bind (wpAny_standAt (wpAny_bind ?_))
 show wpAny _ X.A (do let _ ←comprehension (.ListComp elt [⟨tg,iter,ifs,0⟩] sc pos) sc X.env _ (newList []) false (eval iter X.env) (some (d4 (.Name y py) X.env))) _ _ s
 refine wpAny_bind (wpAny_mono (wpAny_comprehension_free (use:=some (d4 (.Name y py) X.env)) (Q:=fun _ s'=>SP X pins D .next s') rfl hs (z2z fun n hn=>I.ok.has n (S.fr hn)) S.kind S.names'
  (thn (hi pins s σ H _ I h) fun v s1 h1=>thn h1 fun itv s2 h2=>?_)) (fun _ s' hq=>wpAny_pure (wpAny_pure hq)) fun _ _ e=>e)
 obtain⟨it,fp,tn,J,H2,e,I2,T,st2,f2,hW⟩:=h2
 subst e
 refine z5A (Q:=fun v H'=>D.nx (σ.set i (some v)) H') (RR:=fun acc C=>compPost (model X.prog X.w) X.A X.xe (some (d4 (.Name y py) X.env)) (fun _ s'=>SP X pins D .next s') acc C) (PC:=fun _ _ _=>True) hc S (fun s H E _=>⟨P.pg s H _ _ E,P.pt s H _ _ E,P.pe s H _ _ E⟩) (fun _ _ _ _ _=>trivial) I2 T st2 f2 hW ?_
 intro a s3 H3 σ' H' s' E' I3 f3 J' q
 have J2:=z6R I3 f3 J'
 obtain⟨m,hn,_⟩:=J'.loc
 show wpAny _ X.A (d4 (.Name y py) X.env (.ref a)) _ _ _
 refine wpAny_assign_Name (z7m J2 hN hy (.inl hyl) (v:=.ref a) rfl (fun s4 I4 hsb=>?_) (.inr hyl))
 obtain⟨b,hb,hb'⟩:=hsb
 have hne:b≠s3.heap.objs.size:=by
  rcases hb' with z | z
  ·rw[z];exact ax I3.lt
  ·obtain⟨v,w'⟩:=I3.cell y b z
   exact ax w'.lt
 refine⟨m,hn.sameBut hb (Ne.symm hne),fun h' hb2=>⟨_,H',?_,q⟩⟩
 have I3':Inv X pins (σ.set i (some (.ref a))) H3 s3∨True:=.inr trivial
 refine I4.turned (t':=s4.toks) (it:=s3.heap.objs.size) (fun b o hne e=>(hb2.2 b hne).trans e) J'.free (cA I3.lt) (.inr I3.sz) (fun x c e=>?_) fun p hp=>?_
 ·obtain⟨v,q⟩:=I3.cell x c e
  exact ax q.lt
 ·exact ax (Heap.lt_size (I3.pin p hp).1)
end
end L2

/-! ### E2: values as trees,without the heap -/
namespace L2
open PySem PySem.Spec PyProof.Rows

inductive D where
 |non | bl (b:Bool) | int (i:Int) | str (x:Str) | lst (xs:List D) | tup (xs:List D) | scr (ns:List Int) | dct (ks:List Key) (xs:List D) | exc (x:Str) | obj (x:Str) (a:Addr) (ks:List Str) (ds:List D) | cel (a:Addr) (ds:List D)
/-- of the program's own class at C isinstance can be asked,and it is none of Python's plain ones -/
def y3c(K:aa)(C:Addr):Bool:=aC K (.ref C) "__getattribute__" == some (some (.builtin "BaseException.__getattribute__"))&&aC K (.ref C) "__getattr__" == some none&&br K C (.type "BaseException")==some true&&(c7 K C).isSome&&aC K (.ref C) "__class__" == some (some (.builtin "object.__class__")) &&
 bE K (.builtin "object.__class__") "__get__" == some (some (.builtin "getset_descriptor.__get__"))&&bW K (.builtin "object.__class__")==some true&&br K C (.type "object")==some true &&
 ["bool", "int", "str", "list", "tuple", "dict"].all fun T=>bO K (.ref C) (.type T)==some false
/-- of the program's own class at C: its instances' attributes ks can be read and set -/
def y0d(K:aa)(C:Addr)(ks:List Str):Bool:=cM K C Str.empty&&dA K C&&dz K C&&aC K (.ref C) "__setattr__" == some (some (.builtin "object.__setattr__")) &&
 aC K (.ref C) "__class__" == some (some (.builtin "object.__class__"))&&bE K (.builtin "object.__class__") "__get__" == some (some (.builtin "getset_descriptor.__get__"))&&bW K (.builtin "object.__class__")==some true&&br K C (.type "object")==some true &&
 (["bool", "int", "str", "list", "tuple", "dict"].all fun T=>bO K (.ref C) (.type T)==some false)&&ks.all fun f=>aC K (.ref C) f==some none
/-- an exception of the class at C -/
def isX(a C:Addr)(h:Heap):Prop:=∃o,h.get? a=some o∧o.cls = .ref C∧o.dict=none∧PySem.W.notCls o=true

/-- a list that nobody changes: the script -/
def SqF(K:aa)(H:Hp)(a:Addr)(xs:List V):Prop:=
 (∃o,H a=some (.frz o (.lst xs)))∨∃(o:Obj) (its:Array Value) (n:Nat),K.lookup a=some o∧o.cls = .type "list" ∧ o.dict=none∧o.data = .seq its n∧its.size≤sizeLine∧Vals xs its.toList
theorem SqF.sq{K:aa}{H:Hp}{a:Addr}{xs:List V}(h:SqF K H a xs):SqL K H a xs:=h.elim (fun z=>.inl (.inr z)) .inr
/- v stands for d at H,through no list or dict of B -/
mutual
def Rep(K:aa)(H:Hp)(B:Addr->Prop):D->V->Prop
 |.non,v=>v = .non
 |.bl b,v=>v = .bl b
 |.int i,v=>v = .int i
 |.str x,v=>v = .str x
 |.lst ds,v=>∃a xs,v = .ref a∧¬ B a∧H a=some (.lst xs)∧Reps K H B ds xs
 |.tup ds,v=>∃a xs,v = .ref a∧SqT K H a xs∧Reps K H B ds xs
 |.scr ns,v=>∃a,v = .ref a∧SqF K H a (ns.map V.int)
 |.dct ks ds,v=>∃a kvs,v = .ref a∧¬ B a∧H a=some (.dK kvs)∧kvs.map (·.1)=ks∧Reps K H B ds (kvs.map (·.2))
 |.exc x,v=>∃a C,v = .ref a∧¬ B a∧H a=some (.ext (isX a C))∧aB K mainGlobals x=some (some (.ref C))∧y3c K C=true
 |.obj x a ks ds,v=>∃C dx fs,¬ B a∧H a=some (.ins C dx fs)∧(v = .ref a∧aB K mainGlobals x=some (some (.ref C))∧y0d K C ks=true∧fs.map (·.1)=ks)∧Reps K H B ds (fs.map (·.2))
 |.cel a ds,v=>∃xs,¬ B a∧H a=some (.lst xs)∧v = .ref a∧Reps K H B ds xs
def Reps(K:aa)(H:Hp)(B:Addr->Prop):List D->List V->Prop
 |[],xs=>xs=[]
 |d::ds,xs=>∃x r,xs=x::r∧Rep K H B d x∧Reps K H B ds r
end
/- v is the tree d at H,its lists and dicts those of A,each held there -/
mutual
def Tree(K:aa)(H:Hp):D->V->List Addr->Prop
 |.non,v,A=>v = .non∧A=[]
 |.bl b,v,A=>v = .bl b∧A=[]
 |.int i,v,A=>v = .int i∧A=[]
 |.str x,v,A=>v = .str x∧A=[]
 |.lst ds,v,A=>∃a xs B,v = .ref a∧H a=some (.lst xs)∧Trees K H ds xs B∧A=a::B
 |.tup ds,v,A=>∃a xs,v = .ref a∧SqT K H a xs∧Trees K H ds xs A
 |.scr ns,v,A=>(∃a,v = .ref a∧SqF K H a (ns.map V.int))∧A=[]
 |.dct ks ds,v,A=>∃a kvs B,v = .ref a∧H a=some (.dK kvs)∧kvs.map (·.1)=ks∧Trees K H ds (kvs.map (·.2)) B∧A=a::B
 |.exc x,v,A=>∃a C,v = .ref a∧H a=some (.ext (isX a C))∧aB K mainGlobals x=some (some (.ref C))∧y3c K C=true∧A=[a]
 |.obj x a ks ds,v,A=>∃C dx fs A1,H a=some (.ins C dx fs)∧(v = .ref a∧aB K mainGlobals x=some (some (.ref C))∧y0d K C ks=true∧fs.map (·.1)=ks)∧Trees K H ds (fs.map (·.2)) A1∧A=a::A1
 |.cel a ds,v,A=>∃xs B,H a=some (.lst xs)∧v = .ref a∧Trees K H ds xs B∧A=a::B
def Trees(K:aa)(H:Hp):List D->List V->List Addr->Prop
 |[],xs,A=>xs=[]∧A=[]
 |d::ds,xs,A=>∃x r B C,xs=x::r∧Tree K H d x B∧Trees K H ds r C∧A=B++C
end
/- nothing in it can change -/
mutual
def D.imm:D->Bool
 |.non=>true
 |.bl _=>true
 |.int _=>true
 |.str _=>true
 |.lst _=>false
 |.tup ds=>z0L ds
 |.scr _=>true
 |.dct _ _=>false
 |.exc _=>false
 |.obj _ _ _ _=>false
 |.cel _ _=>false
def z0L:List D->Bool
 |[]=>true
 |d::ds=>d.imm&&z0L ds
end

theorem Same.tup{K:aa}{H H':Hp}{a:Addr}{xs:List V}(e:Same H H')(h:SqT K H a xs):SqT K H' a xs:=by
 rcases h with (h | ⟨o,h⟩) | h
 ·exact .inl (.inl (e _ _ h))
 ·exact .inl (.inr ⟨o,e _ _ h⟩)
 ·exact .inr h

section
variable{K:aa}{H H':Hp}{B B':Addr->Prop}

structure KeepI(K:aa)(H H':Hp):Prop where
 st:∀a xs,SqT K H a xs->SqT K H' a xs
 sf:∀a xs,SqF K H a xs->SqF K H' a xs
/-- what is kept: what is read of lists,dicts (outside of B) and tuples -/
structure Keep(K:aa)(B:Addr->Prop)(H H':Hp):Prop where
 sl:∀a xs,¬ B a->H a=some (.lst xs)->H' a=some (.lst xs)
 st:∀a xs,SqT K H a xs->SqT K H' a xs
 sf:∀a xs,SqF K H a xs->SqF K H' a xs
 sd:∀a kvs,¬ B a->H a=some (.dK kvs)->H' a=some (.dK kvs)
 sx:∀a φ,¬ B a->H a=some (.ext φ)->H' a=some (.ext φ)
 si:∀a C dx fs,¬ B a->H a=some (.ins C dx fs)->H' a=some (.ins C dx fs)

theorem Keep.i(k:Keep K B H H'):KeepI K H H':=⟨k.st,k.sf⟩
mutual
theorem Rep.keep(k:Keep K B H H'):∀(d:D) {v:V},Rep K H B d v->Rep K H' B d v
 |.non,_,h=>h
 |.bl _,_,h=>h
 |.int _,_,h=>h
 |.str _,_,h=>h
 |.lst ds,_,h=>by
  unfold Rep at h ⊢
  obtain⟨a,xs,e,n,s,r⟩:=h
  exact⟨a,xs,e,n,k.sl a xs n s,Reps.keep k ds r⟩
 |.tup ds,_,h=>by
  unfold Rep at h ⊢
  obtain⟨a,xs,e,s,r⟩:=h
  exact⟨a,xs,e,k.st a xs s,Reps.keep k ds r⟩
 |.scr ns,_,h=>by
  unfold Rep at h ⊢
  obtain⟨a,e,s⟩:=h
  exact⟨a,e,k.sf a _ s⟩
 |.dct ks ds,_,h=>by
  unfold Rep at h ⊢
  obtain⟨a,kvs,e,n,s,q,r⟩:=h
  exact⟨a,kvs,e,n,k.sd a kvs n s,q,Reps.keep k ds r⟩
 |.exc _,_,h=>by
  unfold Rep at h ⊢
  obtain⟨a,C,e,n,s,r⟩:=h
  exact⟨a,C,e,n,k.sx a _ n s,r⟩
 |.obj x a ks ds,_,h=>by
  unfold Rep at h ⊢
  obtain⟨C,dx,fs,n,s,q,r1⟩:=h
  exact⟨C,dx,fs,n,k.si a C dx fs n s,q,Reps.keep k ds r1⟩
 |.cel a ds,_,h=>by
  unfold Rep at h ⊢
  obtain⟨xs,n,s,e,r⟩:=h
  exact⟨xs,n,k.sl a xs n s,e,Reps.keep k ds r⟩
theorem Reps.keep(k:Keep K B H H'):∀(ds:List D) {xs:List V},Reps K H B ds xs->Reps K H' B ds xs
 |[],_,h=>h
 |d::ds,_,h=>by
  unfold Reps at h ⊢
  obtain⟨x,r,e,h1,h2⟩:=h
  exact⟨x,r,e,Rep.keep k d h1,Reps.keep k ds h2⟩
end
mutual
theorem Rep.anti(hb:∀a,B' a->B a):∀(d:D) {v:V},Rep K H B d v->Rep K H B' d v
 |.non,_,h=>h
 |.bl _,_,h=>h
 |.int _,_,h=>h
 |.str _,_,h=>h
 |.lst ds,_,h=>by
  unfold Rep at h ⊢
  obtain⟨a,xs,e,n,s,r⟩:=h
  exact⟨a,xs,e,fun z=>n (hb a z),s,Reps.anti hb ds r⟩
 |.tup ds,_,h=>by
  unfold Rep at h ⊢
  obtain⟨a,xs,e,s,r⟩:=h
  exact⟨a,xs,e,s,Reps.anti hb ds r⟩
 |.scr _,_,h=>h
 |.dct ks ds,_,h=>by
  unfold Rep at h ⊢
  obtain⟨a,kvs,e,n,s,q,r⟩:=h
  exact⟨a,kvs,e,fun z=>n (hb a z),s,q,Reps.anti hb ds r⟩
 |.exc _,_,h=>by
  unfold Rep at h ⊢
  obtain⟨a,C,e,n,r⟩:=h
  exact⟨a,C,e,fun z=>n (hb a z),r⟩
 |.obj x a ks ds,_,h=>by
  unfold Rep at h ⊢
  obtain⟨C,dx,fs,n,s,q,r1⟩:=h
  exact⟨C,dx,fs,fun z=>n (hb a z),s,q,Reps.anti hb ds r1⟩
 |.cel a ds,_,h=>by
  unfold Rep at h ⊢
  obtain⟨xs,n,s,e,r⟩:=h
  exact⟨xs,fun z=>n (hb a z),s,e,Reps.anti hb ds r⟩
theorem Reps.anti(hb:∀a,B' a->B a):∀(ds:List D) {xs:List V},Reps K H B ds xs->Reps K H B' ds xs
 |[],_,h=>h
 |d::ds,_,h=>by
  unfold Reps at h ⊢
  obtain⟨x,r,e,h1,h2⟩:=h
  exact⟨x,r,e,Rep.anti hb d h1,Reps.anti hb ds h2⟩
end
/- what cannot change stands for itself through whatever -/
mutual
theorem Rep.imm:∀(d:D) {v:V},d.imm=true->Rep K H B d v->Rep K H B' d v
 |.non,_,_,h=>h
 |.bl _,_,_,h=>h
 |.int _,_,_,h=>h
 |.str _,_,_,h=>h
 |.lst _,_,i,_=>by unfold D.imm at i;cases i
 |.dct _ _,_,i,_=>by unfold D.imm at i;cases i
 |.exc _,_,i,_=>by unfold D.imm at i;cases i
 |.obj _ _ _ _,_,i,_=>by unfold D.imm at i;cases i
 |.cel _ _,_,i,_=>by unfold D.imm at i;cases i
 |.tup ds,_,i,h=>by
  unfold D.imm at i
  unfold Rep at h ⊢
  obtain⟨a,xs,e,s,r⟩:=h
  exact⟨a,xs,e,s,Reps.imm ds i r⟩
 |.scr _,_,_,h=>h
theorem Reps.imm:∀(ds:List D) {xs:List V},z0L ds=true->Reps K H B ds xs->Reps K H B' ds xs
 |[],_,_,h=>h
 |d::ds,_,i,h=>by
  unfold z0L at i
  rw[aF]at i
  unfold Reps at h ⊢
  obtain⟨x,r,e,h1,h2⟩:=h
  exact⟨x,r,e,Rep.imm d i.1 h1,Reps.imm ds i.2 h2⟩
end
/- and it is a tree without lists -/
mutual
theorem Rep.immTree:∀(d:D) {v:V},d.imm=true->Rep K H B d v->Tree K H d v []
 |.non,_,_,h=>⟨h,rfl⟩
 |.bl _,_,_,h=>⟨h,rfl⟩
 |.int _,_,_,h=>⟨h,rfl⟩
 |.str _,_,_,h=>⟨h,rfl⟩
 |.lst _,_,i,_=>by unfold D.imm at i;cases i
 |.dct _ _,_,i,_=>by unfold D.imm at i;cases i
 |.exc _,_,i,_=>by unfold D.imm at i;cases i
 |.obj _ _ _ _,_,i,_=>by unfold D.imm at i;cases i
 |.cel _ _,_,i,_=>by unfold D.imm at i;cases i
 |.tup ds,_,i,h=>by
  unfold D.imm at i
  unfold Rep at h
  unfold Tree
  obtain⟨a,xs,e,s,r⟩:=h
  exact⟨a,xs,e,s,Reps.immTree ds i r⟩
 |.scr _,_,_,h=>⟨h,rfl⟩
theorem Reps.immTree:∀(ds:List D) {xs:List V},z0L ds=true->Reps K H B ds xs->Trees K H ds xs []
 |[],_,_,h=>⟨h,rfl⟩
 |d::ds,_,i,h=>by
  unfold z0L at i
  rw[aF]at i
  unfold Reps at h
  unfold Trees
  obtain⟨x,r,e,h1,h2⟩:=h
  exact⟨x,r,[],[],e,Rep.immTree d i.1 h1,Reps.immTree ds i.2 h2,rfl⟩
end
mutual
theorem Tree.rep:∀(d:D) {v:V} {A:List Addr},Tree K H d v A->(∀a∈A,¬ B a)->Rep K H B d v
 |.non,_,_,h,_=>h.1
 |.bl _,_,_,h,_=>h.1
 |.int _,_,_,h,_=>h.1
 |.str _,_,_,h,_=>h.1
 |.lst ds,_,_,h,n=>by
  unfold Tree at h
  unfold Rep
  obtain⟨a,xs,C,e,s,r,rfl⟩:=h
  exact⟨a,xs,e,n a ag,s,Trees.rep ds r fun b hb=>n b (ac _ hb)⟩
 |.tup ds,_,_,h,n=>by
  unfold Tree at h
  unfold Rep
  obtain⟨a,xs,e,s,r⟩:=h
  exact⟨a,xs,e,s,Trees.rep ds r n⟩
 |.scr _,_,_,h,_=>h.1
 |.dct ks ds,_,_,h,n=>by
  unfold Tree at h
  unfold Rep
  obtain⟨a,kvs,C,e,s,q,r,rfl⟩:=h
  exact⟨a,kvs,e,n a ag,s,q,Trees.rep ds r fun b hb=>n b (ac _ hb)⟩
 |.exc _,_,_,h,n=>by
  unfold Tree at h
  unfold Rep
  obtain⟨a,C,e,s,r1,r2,rfl⟩:=h
  exact⟨a,C,e,n a ag,s,r1,r2⟩
 |.obj x a ks ds,_,_,h,n=>by
  unfold Tree at h
  unfold Rep
  obtain⟨C,dx,fs,A1,s,q,r1,rfl⟩:=h
  exact⟨C,dx,fs,n a ag,s,q,Trees.rep ds r1 fun b hb=>n b (ac _ hb)⟩
 |.cel a ds,_,_,h,n=>by
  unfold Tree at h
  unfold Rep
  obtain⟨xs,C,s,e,r,rfl⟩:=h
  exact⟨xs,n a ag,s,e,Trees.rep ds r fun b hb=>n b (ac _ hb)⟩
theorem Trees.rep:∀(ds:List D) {xs:List V} {A:List Addr},Trees K H ds xs A->(∀a∈A,¬ B a)->Reps K H B ds xs
 |[],_,_,h,_=>h.1
 |d::ds,_,_,h,n=>by
  unfold Trees at h
  unfold Reps
  obtain⟨x,r,C,C',e,h1,h2,rfl⟩:=h
  exact⟨x,r,e,Tree.rep d h1 fun b hb=>n b (bg _ hb),Trees.rep ds h2 fun b hb=>n b (au _ hb)⟩
end
/- a tree stays where its own lists stay -/
mutual
theorem Tree.keep(kt:KeepI K H H'):∀(d:D) {v:V} {A:List Addr},Tree K H d v A->(∀a∈A,∀o,H a=some o->H' a=some o)->Tree K H' d v A
 |.non,_,_,h,_=>h
 |.bl _,_,_,h,_=>h
 |.int _,_,_,h,_=>h
 |.str _,_,_,h,_=>h
 |.lst ds,_,_,h,n=>by
  unfold Tree at h ⊢
  obtain⟨a,xs,C,e,s,r,rfl⟩:=h
  exact⟨a,xs,C,e,n a ag _ s,Trees.keep kt ds r fun b hb=>n b (ac _ hb),rfl⟩
 |.tup ds,_,_,h,n=>by
  unfold Tree at h ⊢
  obtain⟨a,xs,e,s,r⟩:=h
  exact⟨a,xs,e,kt.st a xs s,Trees.keep kt ds r n⟩
 |.scr _,_,_,h,_=>by
  unfold Tree at h ⊢
  obtain⟨⟨a,e,s⟩,q⟩:=h
  exact⟨⟨a,e,kt.sf a _ s⟩,q⟩
 |.dct ks ds,_,_,h,n=>by
  unfold Tree at h ⊢
  obtain⟨a,kvs,C,e,s,q,r,rfl⟩:=h
  exact⟨a,kvs,C,e,n a ag _ s,q,Trees.keep kt ds r fun b hb=>n b (ac _ hb),rfl⟩
 |.exc _,_,_,h,n=>by
  unfold Tree at h ⊢
  obtain⟨a,C,e,s,r1,r2,rfl⟩:=h
  exact⟨a,C,e,n a ag _ s,r1,r2,rfl⟩
 |.obj x a ks ds,_,_,h,n=>by
  unfold Tree at h ⊢
  obtain⟨C,dx,fs,A1,s,q,r1,rfl⟩:=h
  exact⟨C,dx,fs,A1,n a ag _ s,q,Trees.keep kt ds r1 fun b hb=>n b (ac _ hb),rfl⟩
 |.cel a ds,_,_,h,n=>by
  unfold Tree at h ⊢
  obtain⟨xs,C,s,e,r,rfl⟩:=h
  exact⟨xs,C,n a ag _ s,e,Trees.keep kt ds r fun b hb=>n b (ac _ hb),rfl⟩
theorem Trees.keep(kt:KeepI K H H'):∀(ds:List D) {xs:List V} {A:List Addr},Trees K H ds xs A->(∀a∈A,∀o,H a=some o->H' a=some o)->Trees K H' ds xs A
 |[],_,_,h,_=>h
 |d::ds,_,_,h,n=>by
  unfold Trees at h ⊢
  obtain⟨x,r,C,C',e,h1,h2,rfl⟩:=h
  exact⟨x,r,C,C',e,Tree.keep kt d h1 fun b hb=>n b (bg _ hb),Trees.keep kt ds h2 fun b hb=>n b (au _ hb),rfl⟩
end
/- what a tree's addresses hold -/
mutual
theorem Tree.held:∀(d:D) {v:V} {A:List Addr},Tree K H d v A->∀a∈A,∃o,H a=some o∧Mut (some o)
 |.non,_,_,h,a,ha=>by rw[h.2]at ha;cases ha
 |.bl _,_,_,h,a,ha=>by rw[h.2]at ha;cases ha
 |.int _,_,_,h,a,ha=>by rw[h.2]at ha;cases ha
 |.str _,_,_,h,a,ha=>by rw[h.2]at ha;cases ha
 |.lst ds,_,_,h,b,hb=>by
  unfold Tree at h
  obtain⟨a,xs,C,e,s,r,rfl⟩:=h
  rcases aq.mp hb with z | z
  ·subst z;exact⟨_,s,trivial⟩
  ·exact Trees.held ds r b z
 |.tup ds,_,_,h,b,hb=>by
  unfold Tree at h
  obtain⟨a,xs,e,s,r⟩:=h
  exact Trees.held ds r b hb
 |.scr _,_,_,h,a,ha=>by rw[h.2]at ha;cases ha
 |.dct ks ds,_,_,h,b,hb=>by
  unfold Tree at h
  obtain⟨a,kvs,C,e,s,q,r,rfl⟩:=h
  rcases aq.mp hb with z | z
  ·subst z;exact⟨_,s,trivial⟩
  ·exact Trees.held ds r b z
 |.exc _,_,_,h,b,hb=>by
  unfold Tree at h
  obtain⟨a,C,e,s,r1,r2,rfl⟩:=h
  rw[aS.mp hb]
  exact⟨_,s,trivial⟩
 |.obj x a ks ds,_,_,h,b,hb=>by
  unfold Tree at h
  obtain⟨C,dx,fs,A1,s,q,r1,rfl⟩:=h
  rcases aq.mp hb with z | z
  ·subst z;exact⟨_,s,trivial⟩
  ·exact Trees.held ds r1 b z
 |.cel a ds,_,_,h,b,hb=>by
  unfold Tree at h
  obtain⟨xs,C,s,e,r,rfl⟩:=h
  rcases aq.mp hb with z | z
  ·subst z;exact⟨_,s,trivial⟩
  ·exact Trees.held ds r b z
theorem Trees.held:∀(ds:List D) {xs:List V} {A:List Addr},Trees K H ds xs A->∀a∈A,∃o,H a=some o∧Mut (some o)
 |[],_,_,h,a,ha=>by rw[h.2]at ha;cases ha
 |d::ds,_,_,h,b,hb=>by
  unfold Trees at h
  obtain⟨x,r,C,C',e,h1,h2,rfl⟩:=h
  rcases aw.mp hb with z | z
  ·exact Tree.held d h1 b z
  ·exact Trees.held ds h2 b z
end

theorem Same.rd{H H':Hp}{a:Addr}{u:HO}(e:Same H H')(h:Rd H a u):Rd H' a u:=h.elim (fun z=>.inl (e _ _ z)) fun⟨o,z⟩=>.inr ⟨o,e _ _ z⟩
theorem Same.sf(e:Same H H'){a:Addr}{xs:List V}(h:SqF K H a xs):SqF K H' a xs:=h.elim (fun⟨o,z⟩=>.inl ⟨o,e _ _ z⟩) .inr
theorem Keep.same(e:Same H H'):Keep K B H H':=⟨fun _ _ _ h=>e _ _ h,fun _ _ h=>e.tup h,fun _ _ h=>e.sf h,fun _ _ _ h=>e _ _ h,fun _ _ _ h=>e _ _ h,fun _ _ _ _ _ h=>e _ _ h⟩
theorem KeepI.same(e:Same H H'):KeepI K H H':=⟨fun _ _ h=>e.tup h,fun _ _ h=>e.sf h⟩
theorem Rep.mono{d:D}{v:V}(h:Rep K H B d v)(e:Same H H'):Rep K H' B d v:=Rep.keep (.same e) d h
theorem Reps.mono{ds:List D}{xs:List V}(h:Reps K H B ds xs)(e:Same H H'):Reps K H' B ds xs:=Reps.keep (.same e) ds h
theorem Tree.mono{d:D}{v:V}{A:List Addr}(h:Tree K H d v A)(e:Same H H'):Tree K H' d v A:=Tree.keep (.same e) d h fun a _ o z=>e a o z
theorem Trees.mono{ds:List D}{v:List V}{A:List Addr}(h:Trees K H ds v A)(e:Same H H'):Trees K H' ds v A:=Trees.keep (.same e) ds h fun a _ o z=>e a o z

/- what is not there yet is not gone through -/
mutual
theorem Rep.wide{C:Addr->Prop}(hc:∀a,C a->H a=none):∀(d:D) {v:V},Rep K H B d v->Rep K H (fun a=>B a∨C a) d v
 |.non,_,h=>h
 |.bl _,_,h=>h
 |.int _,_,h=>h
 |.str _,_,h=>h
 |.lst ds,_,h=>by
  unfold Rep at h ⊢
  obtain⟨a,xs,e,n,s,r⟩:=h
  refine⟨a,xs,e,fun z=>z.elim n fun z=>?_,s,Reps.wide hc ds r⟩
  rw[hc a z]at s;cases s
 |.tup ds,_,h=>by
  unfold Rep at h ⊢
  obtain⟨a,xs,e,s,r⟩:=h
  exact⟨a,xs,e,s,Reps.wide hc ds r⟩
 |.scr _,_,h=>h
 |.dct ks ds,_,h=>by
  unfold Rep at h ⊢
  obtain⟨a,kvs,e,n,s,q,r⟩:=h
  refine⟨a,kvs,e,fun z=>z.elim n fun z=>?_,s,q,Reps.wide hc ds r⟩
  rw[hc a z]at s;cases s
 |.exc _,_,h=>by
  unfold Rep at h ⊢
  obtain⟨a,C,e,n,s,r⟩:=h
  refine⟨a,C,e,fun z=>z.elim n fun z=>?_,s,r⟩
  rw[hc a z]at s;cases s
 |.obj x a ks ds,_,h=>by
  unfold Rep at h ⊢
  obtain⟨C',dx,fs,n,s,q,r1⟩:=h
  refine⟨C',dx,fs,fun z=>z.elim n fun z=>?_,s,q,Reps.wide hc ds r1⟩
  rw[hc a z]at s;cases s
 |.cel a ds,_,h=>by
  unfold Rep at h ⊢
  obtain⟨xs,n,s,e,r⟩:=h
  refine⟨xs,fun z=>z.elim n fun z=>?_,s,e,Reps.wide hc ds r⟩
  rw[hc a z]at s;cases s
theorem Reps.wide{C:Addr->Prop}(hc:∀a,C a->H a=none):∀(ds:List D) {xs:List V},Reps K H B ds xs->Reps K H (fun a=>B a∨C a) ds xs
 |[],_,h=>h
 |d::ds,_,h=>by
  unfold Reps at h ⊢
  obtain⟨x,r,e,h1,h2⟩:=h
  exact⟨x,r,e,Rep.wide hc d h1,Reps.wide hc ds h2⟩
end
/-- a list or dict of B is written -/
theorem Keep.upd{a:Addr}{o:HO}(hb:B a)(mu:Mut (H a)):Keep K B H (upd H a o):=by
 refine⟨fun b xs n h=>?_,fun b xs h=>?_,fun b xs h=>?_,fun b kvs n h=>?_,fun b φ n h=>?_,fun b C dx fs n h=>?_⟩
 ·have ne:b≠a:=fun z=>n (z ▸ hb)
  rw[z0n ne];exact h
 ·rcases h with (h | ⟨u,h⟩) | h
  ·have ne:b≠a:=fun z=>by subst z;rw[h]at mu;exact mu
   exact .inl (.inl (by rw[z0n ne];exact h))
  ·have ne:b≠a:=fun z=>by subst z;rw[h]at mu;exact mu
   exact .inl (.inr ⟨u,by rw[z0n ne];exact h⟩)
  ·exact .inr h
 ·rcases h with⟨u,h⟩ | h
  ·have ne:b≠a:=fun z=>by subst z;rw[h]at mu;exact mu
   exact .inl ⟨u,by rw[z0n ne];exact h⟩
  ·exact .inr h
 ·have ne:b≠a:=fun z=>n (z ▸ hb)
  rw[z0n ne];exact h
 ·have ne:b≠a:=fun z=>n (z ▸ hb)
  rw[z0n ne];exact h
 ·have ne:b≠a:=fun z=>n (z ▸ hb)
  rw[z0n ne];exact h
theorem z0t{a:Addr}{o:HO}(h:H a=none):Same H (upd H a o):=fun b u e=>by rw[z0n (z1f e h)];exact e

theorem Reps.length:∀{ds:List D} {xs:List V},Reps K H B ds xs->ds.length=xs.length
 |[],_,h=>by unfold Reps at h;subst h;rfl
 |d::ds,_,h=>by
  unfold Reps at h
  obtain⟨x,r,rfl,_,h2⟩:=h
  simp[Reps.length h2]
theorem Reps.get:∀{ds:List D} {xs:List V} {i:Nat} {d:D},Reps K H B ds xs->ds[i]? = some d->∃x,xs[i]? = some x∧Rep K H B d x
 |[],_,_,_,_,e=>by simp at e
 |d::ds,_,i,d',h,e=>by
  unfold Reps at h
  obtain⟨x,r,rfl,h1,h2⟩:=h
  cases i with
  |zero=>simp at e;subst e;exact⟨x,rfl,h1⟩
  |succ i=>simpa using Reps.get (i:=i) h2 (by simpa using e)
theorem Reps.get':∀{ds:List D} {xs:List V} {i:Nat} {x:V},Reps K H B ds xs->xs[i]? = some x->∃d,ds[i]? = some d∧Rep K H B d x
 |[],_,_,_,h,e=>by unfold Reps at h;subst h;simp at e
 |d::ds,_,i,x',h,e=>by
  unfold Reps at h
  obtain⟨x,r,rfl,h1,h2⟩:=h
  cases i with
  |zero=>simp at e;subst e;exact⟨d,rfl,h1⟩
  |succ i=>simpa using Reps.get' (i:=i) h2 (by simpa using e)
theorem Reps.append:∀{ds es:List D} {xs ys:List V},Reps K H B ds xs->Reps K H B es ys->Reps K H B (ds++es) (xs++ys)
 |[],_,_,_,h,h'=>by unfold Reps at h;subst h;exact h'
 |d::ds,es,_,ys,h,h'=>by
  unfold Reps at h
  obtain⟨x,r,rfl,h1,h2⟩:=h
  exact(show Reps K H B (d::(ds++es)) (x::(r++ys)) by unfold Reps;exact⟨x,r++ys,rfl,h1,Reps.append h2 h'⟩)
theorem Reps.take:∀{ds:List D} {xs:List V} (n:Nat),Reps K H B ds xs->Reps K H B (ds.take n) (xs.take n)
 |_,_,0,_=>by rw[cE,cE];unfold Reps;rfl
 |[],_,_+1,h=>by unfold Reps at h;subst h;unfold Reps;rfl
 |d::ds,_,n+1,h=>by
  unfold Reps at h
  obtain⟨x,r,rfl,h1,h2⟩:=h
  rw[b4,b4]
  unfold Reps
  exact⟨x,_,rfl,h1,Reps.take n h2⟩
theorem Reps.drop:∀{ds:List D} {xs:List V} (n:Nat),Reps K H B ds xs->Reps K H B (ds.drop n) (xs.drop n)
 |_,_,0,h=>h
 |[],_,_+1,h=>by unfold Reps at h;subst h;unfold Reps;rfl
 |d::ds,_,n+1,h=>by
  unfold Reps at h
  obtain⟨x,r,rfl,h1,h2⟩:=h
  exact Reps.drop n h2
theorem Reps.one{d:D}{x:V}(h:Rep K H B d x):Reps K H B [d] [x]:=by unfold Reps;exact⟨x,[],rfl,h,by unfold Reps;rfl⟩
theorem Reps.nil:Reps K H B [] []:=by unfold Reps;rfl
theorem Reps.cons{d:D}{x:V}{ds:List D}{xs:List V}(h:Rep K H B d x)(h':Reps K H B ds xs):Reps K H B (d::ds) (x::xs):=by unfold Reps;exact⟨x,xs,rfl,h,h'⟩
theorem Reps.snoc{d:D}{x:V}{ds:List D}{xs:List V}(h':Reps K H B ds xs)(h:Rep K H B d x):Reps K H B (ds++[d]) (xs++[x]):=h'.append (.one h)
theorem Trees.nil:Trees K H [] [] []:=⟨rfl,rfl⟩
theorem Trees.snoc:∀{ds:List D} {xs:List V} {A C:List Addr} {d:D} {x:V},Trees K H ds xs A->Tree K H d x C->Trees K H (ds++[d]) (xs++[x]) (A++C)
 |[],_,_,C,d,x,h,h'=>by
  obtain⟨rfl,rfl⟩:=h
  exact(show Trees K H [d] [x] C by unfold Trees;exact⟨x,[],C,[],rfl,h',⟨rfl,rfl⟩,(aG _).symm⟩)
 |e::ds,_,_,C,d,x,h,h'=>by
  unfold Trees at h
  obtain⟨y,r,A1,A2,rfl,h1,h2,rfl⟩:=h
  exact(show Trees K H (e::(ds++[d])) (y::(r++[x])) (A1++A2++C) by unfold Trees;exact⟨y,_,A1,A2++C,rfl,h1,Trees.snoc h2 h',aQ _ _ _⟩)
end
end L2

/-! ### E3: expressions by trees -/
namespace L2
open PySem PySem.Spec PyProof.Rows

abbrev DS:=List (Option D)
abbrev DE:=DS->Option D
structure RepS(K:aa)(H:Hp)(B:Addr->Prop)(σ:St)(δ:DS):Prop where
 len:δ.length=σ.length
 get:∀(i:Nat) (d:D),δ[i]? = some (some d)->∃v,σ[i]? = some (some v)∧Rep K H B d v
def InB(B:Addr->Prop)(H:Hp):Prop:=∀a,B a->∃o,H a=some o
def noB:Addr->Prop:=fun _=>False
theorem InB.mono{B:Addr->Prop}{H H':Hp}(h:InB B H)(e:Same H H'):InB B H':=fun a b=>let⟨o,q⟩:=h a b;⟨o,e a o q⟩
theorem InB.no{H:Hp}:InB noB H:=fun _ b=>b.elim
theorem InB.fresh{B:Addr->Prop}{H:Hp}(h:InB B H){a:Addr}(e:H a=none):¬ B a:=fun b=>by
 obtain⟨o,q⟩:=h a b
 rw[e]at q;cases q
theorem RepS.mono{K:aa}{H H':Hp}{B:Addr->Prop}{σ:St}{δ:DS}(h:RepS K H B σ δ)(e:Same H H'):RepS K H' B σ δ:=
 ⟨h.len,fun i d q=>let⟨v,a,r⟩:=h.get i d q;⟨v,a,r.mono e⟩⟩
theorem RepS.anti{K:aa}{H:Hp}{B B':Addr->Prop}{σ:St}{δ:DS}(h:RepS K H B σ δ)(e:∀a,B' a->B a):RepS K H B' σ δ:=
 ⟨h.len,fun i d q=>let⟨v,a,r⟩:=h.get i d q;⟨v,a,r.anti e⟩⟩

/-- an expression's tree: shared with what is there (D),a list just made (F),a tree all new (N);a test's bool (T);arguments (Ds) -/
def tD(K:aa)(f:DE):TE:=fun σ H Q=>∃B δ d,InB B H∧RepS K H B σ δ∧f δ=some d∧∀v H',Same H H'->Rep K H' B d v->Q v H'
def tF(K:aa)(f:DS->Option (List D)):TE:=fun σ H Q=>∃B δ ds,InB B H∧RepS K H B σ δ∧f δ=some ds ∧
 ∀a xs H',Same H H'->H a=none->H' a=some (.lst xs)->Reps K H' B ds xs->Q (.ref a) H'
def tN(K:aa)(f:DE):TE:=fun σ H Q=>∃δ d,RepS K H noB σ δ∧f δ=some d∧∀v H' A,Same H H'->Tree K H' d v A->A.Nodup->(∀a∈A,H a=none)->Q v H'
def tT(K:aa)(f:DS->Option Bool):TT:=fun σ H Q=>∃B δ b,InB B H∧RepS K H B σ δ∧f δ=some b∧∀H',Same H H'->Q b H'
def tDs(K:aa)(f:DS->Option (List D)):TA:=fun σ H Q=>∃B δ ds,InB B H∧RepS K H B σ δ∧f δ=some ds∧∀vs H',Same H H'->Reps K H' B ds vs->Q vs H'
abbrev PD(X:Cx)(e:Expr)(f:DE):Prop:=PE X e (tD X.K f)
abbrev PF(X:Cx)(e:Expr)(f:DS->Option (List D)):Prop:=PE X e (tF X.K f)
abbrev PN(X:Cx)(e:Expr)(f:DE):Prop:=PE X e (tN X.K f)
abbrev PTD(X:Cx)(e:Expr)(f:DS->Option Bool):Prop:=PT X e (tT X.K f)
abbrev PWD(X:Cx)(e:Expr)(f:DS->Option Bool):Prop:=PW X e (tT X.K f)

section
variable{X:Cx}{e a b c:Expr}{es:List Expr}{pos:Pos}
theorem PE.imp{t t':TE}(h:PE X e t)(w:∀σ H Q,t' σ H Q->t σ H Q):PE X e t':=fun pins s σ H Q I q=>h pins s σ H Q I (w σ H Q q)
theorem PT.imp{t t':TT}(h:PT X e t)(w:∀σ H Q,t' σ H Q->t σ H Q):PT X e t':=fun pins s σ H Q I q=>h pins s σ H Q I (w σ H Q q)
theorem PW.imp{t t':TT}(h:PW X e t)(w:∀σ H Q,t' σ H Q->t σ H Q):PW X e t':=fun wh pins s σ H Q I q=>h wh pins s σ H Q I (w σ H Q q)
theorem PA.imp{t t':TA}(h:PA X es t)(w:∀σ H Q,t' σ H Q->t σ H Q):PA X es t':=fun po pins s σ H Q I q=>h po pins s σ H Q I (w σ H Q q)

def mkL(f:DS->Option (List D)):DE:=fun δ=>(f δ).map .lst
def z0w(f:DS->Option (List D)):DE:=fun δ=>(f δ).bind fun ds=>if z0L ds=true then some (.lst ds)else none
def mkImm(f:DE):DE:=fun δ=>(f δ).bind fun d=>if d.imm=true then some d else none
theorem iDF{K:aa}{f:DS->Option (List D)}:∀σ H Q,tD K (mkL f) σ H Q->tF K f σ H Q:=fun σ H Q ⟨B,δ,d,hB,S,q,k⟩=>by
 unfold mkL at q
 cases r:f δ with
 |none=>rw[r]at q;cases q
 |some ds=>
  rw[r]at q
  cases q
  exact⟨B,δ,ds,hB,S,r,fun a xs H' s hn ha hr=>k _ H' s (by unfold Rep;exact⟨a,xs,rfl,hB.fresh hn,ha,hr⟩)⟩
theorem iDN{K:aa}{f:DE}:∀σ H Q,tD K f σ H Q->tN K f σ H Q:=fun σ H Q ⟨B,δ,d,hB,S,q,k⟩=>
 ⟨δ,d,S.anti (fun _ z=>z.elim),q,fun v H' A s t nd fr=>k v H' s (t.rep d fun a ha=>hB.fresh (fr a ha))⟩
theorem iNF{K:aa}{f:DS->Option (List D)}:∀σ H Q,tN K (z0w f) σ H Q->tF K f σ H Q:=fun σ H Q ⟨δ,d,S,q,k⟩=>by
 unfold z0w at q
 cases r:f δ with
 |none=>rw[r]at q;cases q
 |some ds=>
  rw[r]at q
  have q':(if z0L ds=true then some (D.lst ds)else none)=some d:=q
  split at q'
  ·rename_i hi
   cases q'
   refine⟨noB,δ,ds,.no,S,r,fun a xs H' s hn ha hr=>k (.ref a) H' [a] s ?_ (am.mpr ⟨(fun z=>nomatch z),aY⟩) (fun b hb=>by rw[aS.mp hb];exact hn)⟩
   unfold Tree
   exact⟨a,xs,[],rfl,ha,hr.immTree ds hi,rfl⟩
  ·cases q'

theorem z9g{f:DS->Option (List D)}(h:PF X e f):PD X e (mkL f):=h.imp iDF
theorem z7f{f:DE}(h:PN X e f):PD X e f:=h.imp iDN
theorem z5q{f:DS->Option (List D)}(h:PF X e f):PN X e (z0w f):=h.imp iNF

/-! ### names,constants -/
def z0c(i:Nat):DE:=fun δ=>(δ[i]?).bind id
def dC(d:D):DE:=fun _=>some d
theorem z0h(i:Nat){x:Str}{p:Pos}(h:PE X (.Name x p) (z5m i)):PD X (.Name x p) (z0c i):=h.imp fun σ H Q ⟨B,δ,d,hB,S,q,k⟩=>by
 unfold z0c at q
 cases r:δ[i]? with
 |none=>rw[r]at q;cases q
 |some o=>
  rw[r]at q
  have q':o=some d:=q
  subst q'
  obtain⟨v,e,rv⟩:=S.get i d r
  exact⟨v,e,k v H (.refl H) rv⟩
theorem pd_C{d:D}{v:V}(h:PE X e (tC v))(r:∀K H B,Rep K H B d v):PD X e (dC d):=h.imp fun σ H Q ⟨B,δ,d',hB,S,q,k⟩=>by
 cases q
 exact k v H (.refl H) (r _ _ _)
theorem z0e{i j p}:PD X (.Constant (.int i) j p) (dC (.int i)):=pd_C pe_int fun _ _ _=>rfl
theorem z2v{i j p}:PD X (.Constant (.bool i) j p) (dC (.bl i)):=pd_C pe_bl fun _ _ _=>rfl
theorem y2F{i j p}:PD X (.Constant (.str i) j p) (dC (.str i)):=pd_C pe_str fun _ _ _=>rfl

/-! ### two parts -/
def d2(F:D->D->Option D)(f g:DE):DE:=fun δ=>(f δ).bind fun x=>(g δ).bind fun y=>F x y
theorem d2_some{F:D->D->Option D}{f g:DE}{δ:DS}{d:D}(h:d2 F f g δ=some d):∃x y,f δ=some x∧g δ=some y∧F x y=some d:=by
 unfold d2 at h
 cases hx:f δ with
 |none=>rw[hx]at h;cases h
 |some x=>
  rw[hx]at h
  cases hy:g δ with
  |none=>
   have h':((g δ).bind fun y=>F x y)=some d:=h
   rw[hy]at h';cases h'
  |some y=>
   have h':((g δ).bind fun y=>F x y)=some d:=h
   rw[hy]at h'
   exact⟨x,y,rfl,rfl,h'⟩
/-- what a rule by values says by trees -/
def Op2(K:aa)(r:R2)(F:D->D->Option D):Prop:=∀(H:Hp) (B:Addr->Prop) (dx dy d:D) (x y:V) (Q:VK),InB B H->Rep K H B dx x->Rep K H B dy y->F dx dy=some d->(∀v H',Same H H'->Rep K H' B d v->Q v H')->r x y H Q
theorem z8M{r:R2}{F:D->D->Option D}{f g:DE}(ho:Op2 X.K r F)(σ:St)(H:Hp)(Q:VK)(h:tD X.K (d2 F f g) σ H Q):tOp r (tD X.K f) (tD X.K g) σ H Q:=by
 obtain⟨B,δ,d,hB,S,q,k⟩:=h
 obtain⟨dx,dy,e1,e2,e3⟩:=d2_some q
 exact⟨B,δ,dx,hB,S,e1,fun v H1 s1 r1=>⟨B,δ,dy,hB.mono s1,S.mono s1,e2,fun u H2 s2 r2=>
  ho H2 B dx dy d v u Q ((hB.mono s1).mono s2) (r1.mono s2) r2 e3 fun z H' s' rz=>k z H' ((s1.trans s2).trans s') rz⟩⟩
theorem y3j{op:Operator}{r:R2}{F:D->D->Option D}{f g:DE}(ho:OpR X (binaryOp op) r)(hD:Op2 X.K r F)(ha:PD X a f)(hb:PD X b g):PD X (.BinOp a op b pos) (d2 F f g):=(pe_op ho ha hb).imp (z8M hD)
theorem pd_cmp{op:CmpOp}{r:R2}{F:D->D->Option D}{f g:DE}(ho:OpR X (dX op) r)(hD:Op2 X.K r F)(ha:PD X a f)(hb:PD X b g)(hm:dU op b=false):PD X (.Compare a [op] [b] pos) (d2 F f g):=(pe_cmpR ho ha hb hm).imp (z8M hD)
def z1k(f:DE):DS->Option Bool:=fun δ=>match f δ with
 |some (.bl b)=>some b
 |_=>none
theorem y0f{f:DE}{δ:DS}{b:Bool}(h:z1k f δ=some b):f δ=some (.bl b):=by
 unfold z1k at h
 split at h
 ·rename_i b' e
  cases h;exact e
 ·cases h
theorem test_of{t:TE}{f:DE}(h:∀σ H Q,tD X.K f σ H Q->t σ H Q)(σ:St)(H:Hp)(Q:Bool->Hp->Prop)(q:tT X.K (z1k f) σ H Q):tTest t σ H Q:=by
 obtain⟨B,δ,b,hB,S,q,k⟩:=q
 refine h σ H _ ⟨B,δ,.bl b,hB,S,y0f q,fun v H' s r=>?_⟩
 exact⟨b,r,k H' s⟩
theorem z4E{op:CmpOp}{r:R2}{F:D->D->Option D}{f g:DE}(ho:OpR X (dX op) r)(hD:Op2 X.K r F)(ha:PD X a f)(hb:PD X b g)(hm:dU op b=false):PTD X (.Compare a [op] [b] pos) (z1k (d2 F f g)):=(pt_cmpR ho ha hb hm).imp (test_of (z8M hD))
def z5o(F G:D->D->Option D)(f g h:DE):DE:=fun δ=>(f δ).bind fun x=>(g δ).bind fun y=>match F x y with
 |some (.bl true)=>(h δ).bind fun z=>G y z
 |some (.bl false)=>some (.bl false)
 |_=>none
theorem y5B{r r':R2}{F G:D->D->Option D}{f g h:DE}(ho:Op2 X.K r F)(ho':Op2 X.K r' G)(σ:St)(H:Hp)(Q:VK)(q:tD X.K (z5o F G f g h) σ H Q):y6H r r' (tD X.K f) (tD X.K g) (tD X.K h) σ H Q:=by
 obtain⟨B,δ,d,hB,S,q,k⟩:=q
 unfold z5o at q
 cases e1:f δ with
 |none=>rw[e1]at q;cases q
 |some x=>
  rw[e1]at q
  cases e2:g δ with
  |none=>
   have q':((g δ).bind _)=some d:=q
   rw[e2]at q';cases q'
  |some y=>
   have q':((g δ).bind _)=some d:=q
   rw[e2]at q'
   have q2:(match F x y with | some (.bl true)=>(h δ).bind fun z=>G y z | some (.bl false)=>some (.bl false) | _=>none)=some d:=q'
   refine⟨B,δ,x,hB,S,e1,fun v H1 s1 r1=>⟨B,δ,y,hB.mono s1,S.mono s1,e2,fun u H2 s2 r2=>?_⟩⟩
   split at q2
   ·rename_i e3
    refine ho H2 B x y _ v u _ ((hB.mono s1).mono s2) (r1.mono s2) r2 e3 fun z H3 s3 r3=>⟨true,r3,?_⟩
    rw[if_pos rfl]
    cases e4:h δ with
    |none=>rw[e4]at q2;cases q2
    |some w=>
     rw[e4]at q2
     have q4:G y w=some d:=q2
     refine⟨B,δ,w,((hB.mono s1).mono s2).mono s3,((S.mono s1).mono s2).mono s3,e4,fun t H4 s4 r4=>?_⟩
     exact ho' H4 B y w d u t Q ((((hB.mono s1).mono s2).mono s3).mono s4) ((r2.mono s3).mono s4) r4 q4 fun z' H' s' rz=>k z' H' ((((s1.trans s2).trans s3).trans s4).trans s') rz
   ·rename_i e3
    cases q2
    refine ho H2 B x y _ v u _ ((hB.mono s1).mono s2) (r1.mono s2) r2 e3 fun z H3 s3 r3=>⟨false,r3,?_⟩
    rw[if_neg aj]
    exact k _ H3 ((s1.trans s2).trans s3) rfl
   ·cases q2
theorem y4I{op op':CmpOp}{r r':R2}{F G:D->D->Option D}{f g h:DE}(ho:OpR X (dX op) r)(ho':OpR X (dX op') r')(hF:Op2 X.K r F)(hG:Op2 X.K r' G)(ha:PD X a f)(hb:PD X b g)(hc:PD X c h)
  (hm:lastMarks [op,op'] [b,c]=false:=by with_unfolding_all rfl):PD X (.Compare a [op,op'] [b,c] pos) (z5o F G f g h):=(y4F ho ho' ha hb hc hm).imp (y5B hF hG)

/-! ### ints -/
def iop(F:Int->Int->Option D):D->D->Option D
 |.int i,.int j=>F i j
 |_,_=>none
theorem z6h{F:Int->Int->Option D}{x y d:D}(h:iop F x y=some d):∃i j,x = .int i∧y = .int j∧F i j=some d:=by
 unfold iop at h
 split at h
 ·exact⟨_,_,rfl,rfl,h⟩
 ·cases h
theorem y3y{K:aa}{C:Int->Int->Prop}[∀i j,Decidable (C i j)]{g:Int->Int->Int}:Op2 K (rI C fun i j=>.int (g i j)) (iop fun i j=>if C i j then some (.int (g i j))else none):=by
 intro H B dx dy d x y Q hB hx hy q k
 obtain⟨i,j,rfl,rfl,q2⟩:=z6h q
 by_cases hc:C i j
 ·rw[if_pos hc]at q2
  cases q2
  exact⟨i,j,hx,hy,hc,k _ H (.refl H) rfl⟩
 ·rw[if_neg hc]at q2
  cases q2
theorem y2u{K:aa}{g:Int->Int->Int}:Op2 K (rI0 fun i j=>.int (g i j)) (iop fun i j=>some (.int (g i j))):=by
 intro H B dx dy d x y Q hB hx hy q k
 obtain⟨i,j,rfl,rfl,q2⟩:=z6h q
 cases q2
 exact⟨i,j,hx,hy,k _ H (.refl H) rfl⟩
theorem z4n{K:aa}{g:Int->Int->Bool}:Op2 K (rI0 fun i j=>.bl (g i j)) (iop fun i j=>some (.bl (g i j))):=by
 intro H B dx dy d x y Q hB hx hy q k
 obtain⟨i,j,rfl,rfl,q2⟩:=z6h q
 cases q2
 exact⟨i,j,hx,hy,k _ H (.refl H) rfl⟩
theorem Op2.or{K:aa}{r r':R2}{F G:D->D->Option D}(h:Op2 K r F)(h':Op2 K r' G):Op2 K (fun x y H Q=>r x y H Q∨r' x y H Q) (fun x y=>(F x y).orElse fun _=>G x y):=by
 intro H B dx dy d x y Q hB hx hy q k
 cases e:F dx dy with
 |some d'=>
  have q':(F dx dy).orElse (fun _=>G dx dy)=some d:=q
  rw[e]at q'
  cases q'
  exact .inl (h H B dx dy _ x y Q hB hx hy e k)
 |none=>
  have q':(F dx dy).orElse (fun _=>G dx dy)=some d:=q
  rw[e]at q'
  exact .inr (h' H B dx dy d x y Q hB hx hy q' k)

/-! ### one part -/
def d1(F:D->Option D)(f:DE):DE:=fun δ=>(f δ).bind F
theorem y3s{F:D->Option D}{f:DE}{δ:DS}{d:D}(h:d1 F f δ=some d):∃x,f δ=some x∧F x=some d:=by
 unfold d1 at h
 cases hx:f δ with
 |none=>rw[hx]at h;cases h
 |some x=>rw[hx]at h;exact⟨x,rfl,h⟩
def uNeg:D->Option D
 |.int i=>some (.int (-i))
 |_=>none
theorem y3b{f:DE}(h:PD X a f):PD X (.UnaryOp .USub a pos) (d1 uNeg f):=(pe_un un_neg h).imp fun σ H Q ⟨B,δ,d,hB,S,q,k⟩=>by
 obtain⟨x,e1,e2⟩:=y3s q
 refine⟨B,δ,x,hB,S,e1,fun v H' s r=>?_⟩
 unfold uNeg at e2
 split at e2
 ·cases e2
  exact⟨_,r,k _ H' s rfl⟩
 ·cases e2

/-! ### and,or,not,if -/
def z4W:D->Option Bool
 |.non=>some false
 |.bl b=>some b
 |.int i=>some (i != 0)
 |.str x=>if x.length≤sizeLine then some ((x.length:Int) != 0)else none
 |.lst ds=>some (!ds.isEmpty)
 |.tup ds=>some (!ds.isEmpty)
 |.scr ns=>some (!ns.isEmpty)
 |.dct ks _=>some (!ks.isEmpty)
 |.exc _=>none
 |.obj _ _ _ _=>none
 |.cel _ _=>none
def z1y(f:DE):DS->Option Bool:=fun δ=>(f δ).bind z4W
theorem z9t{K:aa}{H:Hp}{B:Addr->Prop}{ds:List D}{xs:List V}(h:Reps K H B ds xs):(!ds.isEmpty) = !xs.isEmpty:=by
 have:=h.length
 cases ds <;> cases xs <;> simp_all
theorem y3i{K:aa}{H:Hp}{B:Addr->Prop}{d:D}{v:V}{k:Bool}(h:Rep K H B d v)(e:z4W d=some k):TruV K v H k:=by
 cases d with
 |non=>cases h;cases e;rfl
 |bl b=>cases h;cases e;rfl
 |int i=>cases h;cases e;rfl
 |str x=>
  cases h
  have e':(if x.length≤sizeLine then some ((x.length:Int) != 0)else none)=some k:=e
  by_cases hl:x.length≤sizeLine
  ·rw[if_pos hl]at e'
   cases e'
   exact⟨hl,rfl⟩
  ·rw[if_neg hl]at e'
   cases e'
 |lst ds=>
  unfold Rep at h
  obtain⟨a,xs,rfl,_,s,r⟩:=h
  cases e
  exact .inl ⟨xs,SqL.of s,z9t r⟩
 |tup ds=>
  unfold Rep at h
  obtain⟨a,xs,rfl,s,r⟩:=h
  cases e
  exact .inr (.inl ⟨xs,s,z9t r⟩)
 |scr ns=>
  unfold Rep at h
  obtain⟨a,rfl,s⟩:=h
  cases e
  exact .inl ⟨_,s.sq,by cases ns <;> rfl⟩
 |dct ks ds=>
  unfold Rep at h
  obtain⟨a,kvs,rfl,_,s,q,r⟩:=h
  cases e
  refine .inr (.inr ⟨kvs,s,?_⟩)
  rw[←q]
  cases kvs <;> rfl
 |exc _=>cases e
 |obj _ _ _ _=>cases e
 |cel _ _=>cases e
theorem z0F{f:DE}(h:PD X a f)(he:∀whole,isTrue a X.env whole=(do let v ←whole;standAt a.pos;holding [v] (truthy v)):=by intro _;rfl):PTD X a (z1y f):=(y5d h he).imp fun σ H Q ⟨B,δ,k,hB,S,q,kk⟩=>by
 unfold z1y at q
 cases e:f δ with
 |none=>rw[e]at q;cases q
 |some d=>
  rw[e]at q
  exact⟨B,δ,d,hB,S,e,fun v H' s r=>⟨k,y3i r q,kk H' s⟩⟩
def y3o(f g:DS->Option Bool):DS->Option Bool:=fun δ=>(f δ).bind fun c=>if c=true then g δ else some false
def z9K(f g:DS->Option Bool):DS->Option Bool:=fun δ=>(f δ).bind fun c=>if c=true then some true else g δ
def z2G(f:DS->Option Bool):DS->Option Bool:=fun δ=>(f δ).map (!·)
theorem y5f{f:DS->Option Bool}(h:PTD X a f):PWD X (.BoolOp .And [a] pos) f:=pw_and1 h
theorem z3J{f:DS->Option Bool}(h:PTD X a f):PWD X (.BoolOp .Or [a] pos) f:=pw_or1 h
theorem pw_andD{rest:List Expr}{f g:DS->Option Bool}(ha:PTD X a f)(hb:PWD X (.BoolOp .And (b::rest) pos) g):PWD X (.BoolOp .And (a::b::rest) pos) (y3o f g):=(pw_and ha hb).imp fun σ H Q ⟨B,δ,k,hB,S,q,kk⟩=>by
 unfold y3o at q
 cases e:f δ with
 |none=>rw[e]at q;cases q
 |some c=>
  rw[e]at q
  refine⟨B,δ,c,hB,S,e,fun H1 s1=>?_⟩
  have q':(if c=true then g δ else some false)=some k:=q
  cases c with
  |true=>
   rw[if_pos rfl]at q'
   refine iteT ?_
   exact⟨B,δ,k,hB.mono s1,S.mono s1,q',fun H2 s2=>kk H2 (s1.trans s2)⟩
  |false=>
   rw[if_neg aj]at q'
   refine iteF ?_
   cases q'
   exact kk H1 s1
theorem z3R{rest:List Expr}{f g:DS->Option Bool}(ha:PTD X a f)(hb:PWD X (.BoolOp .Or (b::rest) pos) g):PWD X (.BoolOp .Or (a::b::rest) pos) (z9K f g):=(pw_or ha hb).imp fun σ H Q ⟨B,δ,k,hB,S,q,kk⟩=>by
 unfold z9K at q
 cases e:f δ with
 |none=>rw[e]at q;cases q
 |some c=>
  rw[e]at q
  refine⟨B,δ,c,hB,S,e,fun H1 s1=>?_⟩
  have q':(if c=true then some true else g δ)=some k:=q
  cases c with
  |true=>
   rw[if_pos rfl]at q'
   refine iteT ?_
   cases q'
   exact kk H1 s1
  |false=>
   rw[if_neg aj]at q'
   refine iteF ?_
   exact⟨B,δ,k,hB.mono s1,S.mono s1,q',fun H2 s2=>kk H2 (s1.trans s2)⟩
theorem z1n{f:DS->Option Bool}(h:PTD X a f):PTD X (.UnaryOp .Not a pos) (z2G f):=(pt_not h).imp fun σ H Q ⟨B,δ,k,hB,S,q,kk⟩=>by
 unfold z2G at q
 cases e:f δ with
 |none=>rw[e]at q;cases q
 |some c=>
  rw[e]at q
  cases q
  exact⟨B,δ,c,hB,S,e,kk⟩
def dAnd(f g:DE):DE:=fun δ=>match f δ with
 |some (.bl true)=>g δ
 |some (.bl false)=>some (.bl false)
 |_=>none
def dOr(f g:DE):DE:=fun δ=>match f δ with
 |some (.bl true)=>some (.bl true)
 |some (.bl false)=>g δ
 |_=>none
def uNot:D->Option D
 |.bl b=>some (.bl (!b))
 |_=>none
theorem y3I{op}{f:DE}(h:PD X a f):PD X (.BoolOp op [a] pos) f:=pe_one h
theorem y3t{rest:List Expr}{f g:DE}(ha:PD X a f)(hb:PD X (.BoolOp .And (b::rest) pos) g):PD X (.BoolOp .And (a::b::rest) pos) (dAnd f g):=(pe_and ha hb).imp fun σ H Q ⟨B,δ,d,hB,S,q,k⟩=>by
 unfold dAnd at q
 split at q
 ·rename_i e
  refine⟨B,δ,.bl true,hB,S,e,fun v H1 s1 r=>⟨true,r,?_⟩⟩
  rw[if_pos rfl]
  exact⟨B,δ,d,hB.mono s1,S.mono s1,q,fun v2 H2 s2 r2=>k v2 H2 (s1.trans s2) r2⟩
 ·rename_i e
  cases q
  refine⟨B,δ,.bl false,hB,S,e,fun v H1 s1 r=>⟨false,r,?_⟩⟩
  rw[if_neg aj]
  exact k _ H1 s1 rfl
 ·cases q
theorem pd_or{rest:List Expr}{f g:DE}(ha:PD X a f)(hb:PD X (.BoolOp .Or (b::rest) pos) g):PD X (.BoolOp .Or (a::b::rest) pos) (dOr f g):=(pe_or ha hb).imp fun σ H Q ⟨B,δ,d,hB,S,q,k⟩=>by
 unfold dOr at q
 split at q
 ·rename_i e
  cases q
  refine⟨B,δ,.bl true,hB,S,e,fun v H1 s1 r=>⟨true,r,?_⟩⟩
  rw[if_pos rfl]
  exact k _ H1 s1 rfl
 ·rename_i e
  refine⟨B,δ,.bl false,hB,S,e,fun v H1 s1 r=>⟨false,r,?_⟩⟩
  rw[if_neg aj]
  exact⟨B,δ,d,hB.mono s1,S.mono s1,q,fun v2 H2 s2 r2=>k v2 H2 (s1.trans s2) r2⟩
 ·cases q
theorem y3l{f:DE}(h:PD X a f):PD X (.UnaryOp .Not a pos) (d1 uNot f):=(pe_not h).imp fun σ H Q ⟨B,δ,d,hB,S,q,k⟩=>by
 obtain⟨x,e1,e2⟩:=y3s q
 refine⟨B,δ,x,hB,S,e1,fun v H' s r=>?_⟩
 unfold uNot at e2
 split at e2
 ·cases e2
  exact⟨_,r,k _ H' s rfl⟩
 ·cases e2
def dIf(c:DS->Option Bool)(f g:DE):DE:=fun δ=>(c δ).bind fun k=>if k=true then f δ else g δ

/-! ### arguments,displays -/
def z0k:List DE->DS->Option (List D)
 |[],_=>some []
 |f::r,δ=>(f δ).bind fun x=>(z0k r δ).bind fun xs=>some (x::xs)
theorem z3I{f:DE}{r:List DE}{δ:DS}{ds:List D}(h:z0k (f::r) δ=some ds):∃x xs,f δ=some x∧z0k r δ=some xs∧ds=x::xs:=by
 unfold z0k at h
 cases hx:f δ with
 |none=>rw[hx]at h;cases h
 |some x=>
  rw[hx]at h
  have h':((z0k r δ).bind fun xs=>some (x::xs))=some ds:=h
  cases hy:z0k r δ with
  |none=>rw[hy]at h';cases h'
  |some xs=>
   rw[hy]at h'
   cases h'
   exact⟨x,xs,rfl,rfl,rfl⟩
theorem z1R:∀{fl:List DE} {δ:DS} {ds:List D},z0k fl δ=some ds->ds.length=fl.length
 |[],_,_,h=>by cases h;rfl
 |f::r,δ,ds,h=>by
  obtain⟨x,xs,_,e,rfl⟩:=z3I h
  simp[z1R e]
abbrev PAD(X:Cx)(es:List Expr)(fl:List DE):Prop:=PA X es (tDs X.K (z0k fl))
theorem z0d:PAD X [] []:=pa_nil.imp fun σ H Q ⟨B,δ,ds,hB,S,q,k⟩=>by
 cases q
 exact k [] H (.refl H) .nil
theorem z0a{f:DE}{fl:List DE}(ha:PD X e f)(hr:PAD X es fl)(hs:starEach (e::es) X.env=(false,eval e X.env)::starEach es X.env:=by rfl):PAD X (e::es) (f::fl):=(z1v ha hr hs).imp fun σ H Q ⟨B,δ,ds,hB,S,q,k⟩=>by
 obtain⟨x,xs,e1,e2,rfl⟩:=z3I q
 exact⟨B,δ,x,hB,S,e1,fun v H1 s1 r1=>⟨B,δ,xs,hB.mono s1,S.mono s1,e2,fun vs H2 s2 r2=>k (v::vs) H2 (s1.trans s2) (.cons (r1.mono s2) r2)⟩⟩
theorem z0X{fl:List DE}(h:PAD X es fl)(hl:fl.length≤1000:=by decide):PF X (.List es pos) (z0k fl):=(y3Q h).imp fun σ H Q ⟨B,δ,ds,hB,S,q,k⟩=>by
 refine⟨B,δ,ds,hB,S,q,fun vs H1 s1 r1=>⟨?_,fun p hp=>?_⟩⟩
 ·rw[←r1.length,z1R q]
  exact b6 (z4C hl)
 ·exact k p vs _ (s1.trans (z0t hp)) (s1.free hp) z0s (r1.mono (z0t hp))
def mkT(f:DS->Option (List D)):DE:=fun δ=>(f δ).map .tup
theorem y7c{x1}{fl:List DE}(h:PAD X es fl)(hl:fl.length≤1000:=by decide):PD X (.Tuple es x1 pos) (mkT (z0k fl)):=(pe_tup h).imp fun σ H Q ⟨B,δ,d,hB,S,q,k⟩=>by
 unfold mkT at q
 cases r:z0k fl δ with
 |none=>rw[r]at q;cases q
 |some ds=>
  rw[r]at q
  cases q
  refine⟨B,δ,ds,hB,S,r,fun vs H1 s1 r1=>⟨?_,fun p hp=>?_⟩⟩
  ·rw[←r1.length,z1R r]
   exact b6 (z4C hl)
  ·refine k _ _ (s1.trans (z0t hp)) ?_
   unfold Rep
   exact⟨p,vs,rfl,SqT.of z0s,r1.mono (z0t hp)⟩

/-! ### xs[i],slices -/
def ixD:D->D->Option D
 |.lst ds,.int i=>atI ds i
 |.tup ds,.int i=>atI ds i
 |.scr ns,.int i=>(atI ns i).map .int
 |_,_=>none
theorem atI_map{α β:Type}(f:α->β)(xs:List α)(i:Int):atI (xs.map f) i=(atI xs i).map f:=by
 unfold atI
 rw[ah]
 cases ixN xs.length i with
 |none=>rfl
 |some j=>simp
theorem z8S{K:aa}{H:Hp}{B:Addr->Prop}{ds:List D}{xs:List V}{i:Int}{d:D}(h:Reps K H B ds xs)(e:atI ds i=some d):∃x,atI xs i=some x∧Rep K H B d x:=by
 unfold atI at e ⊢
 rw[←h.length]
 cases q:ixN ds.length i with
 |none=>rw[q]at e;cases e
 |some j=>
  rw[q]at e
  exact h.get e
theorem o2_ix{K:aa}:Op2 K (rIx K) ixD:=by
 intro H B dx dy d x y Q hB hx hy q k
 unfold ixD at q
 split at q
 ·unfold Rep at hx
  obtain⟨a,xs,rfl,_,s,r⟩:=hx
  obtain⟨v,e,rv⟩:=z8S r q
  exact .inl ⟨a,xs,_,v,rfl,hy,SqL.of s,e,k v H (.refl H) rv⟩
 ·unfold Rep at hx
  obtain⟨a,xs,rfl,s,r⟩:=hx
  obtain⟨v,e,rv⟩:=z8S r q
  exact .inr (.inl ⟨a,xs,_,v,rfl,hy,s,e,k v H (.refl H) rv⟩)
 ·rename_i ns i
  unfold Rep at hx
  obtain⟨a,rfl,s⟩:=hx
  cases e:atI ns i with
  |none=>rw[e]at q;cases q
  |some n=>
   rw[e]at q
   cases q
   exact .inl ⟨a,_,_,.int n,rfl,hy,s.sq,by rw[atI_map,e];rfl,k _ H (.refl H) rfl⟩
 ·cases q
theorem z0q{f g:DE}(ha:PD X a f)(hb:PD X b g)(hs:z4q b:=by intro _ _;rfl):PD X (.Subscript a b pos) (d2 ixD f g):=(y4W ix_seq ha hb hs).imp (z8M o2_ix)

/-! ### a call of the text's own def -/
def spN(K:aa)(F:List D->Option D):Sp:=fun vs H Q _=>∃ds d,Reps K H noB ds vs∧F ds=some d∧∀v H' A,Same H H'->Tree K H' d v A->A.Nodup->(∀a∈A,H a=none)->Q v H'
structure DefOk(P:dN)(w:dO)(K:aa)(mg:Str->Option Value)(base:Heap)(k:Nat)(x:Str)(sp:Sp):Prop where
 ok:∃(f:Addr) (fd:dP) (ps:List Str),mg x=some (.ref f)∧bj K (.ref f)=true∧Binds K fd ps []∧FnOk P w K mg base CX0 k f fd ps sp
def z0p(F:List D->Option D)(fl:List DE):DE:=fun δ=>(z0k fl δ).bind F
theorem z5p{F:List D->Option D}{fl:List DE}{δ:DS}{d:D}(h:z0p F fl δ=some d):∃ds,z0k fl δ=some ds∧F ds=some d:=by
 unfold z0p at h
 cases q:z0k fl δ with
 |none=>rw[q]at h;cases h
 |some ds=>rw[q]at h;exact⟨ds,rfl,h⟩
end
end L2

/-! ### E4: calls,walks and comprehensions by trees -/
namespace L2
open PySem PySem.Spec PyProof.Rows
section
variable{X:Cx}{e a b c:Expr}{es:List Expr}{pos p:Pos}{x:Str}{k:Nat}{tg iter elt:Expr}

/-! ### calls of the text's own defs -/
theorem y5A{sp:Sp}{t:TA}(G:DefOk X.prog X.w X.K X.mg X.base k x sp)(hr:Room k X.A)(hg:Gl X x)(ha:PA X (e::es) t)(hdb:(x==("__debug__" : Str))=false:=by decide)
  (he:starEach (e::es) X.env=(false,eval e X.env)::starEach es X.env:=by rfl) (hpl:(dY pos (starEach es X.env)).any (·.1)=false:=by rfl):PE X (.Call (.Name x p) (e::es) [] pos) (tCall sp [] E0 t):=by
 obtain⟨f,fd,ps,hm,hk,hb,ok⟩:=G.ok
 exact pe_call ok hr hg hm hk hb .nil pass0 ha hdb he hpl
theorem z0o{F:List D->Option D}{fl:List DE}(G:DefOk X.prog X.w X.K X.mg X.base k x (spN X.K F))(hr:Room k X.A)(hg:Gl X x)(ha:PAD X (e::es) fl)(hdb:(x==("__debug__" : Str))=false:=by decide)
  (he:starEach (e::es) X.env=(false,eval e X.env)::starEach es X.env:=by rfl) (hpl:(dY pos (starEach es X.env)).any (·.1)=false:=by rfl):PN X (.Call (.Name x p) (e::es) [] pos) (z0p F fl):=
 (y5A G hr hg ha hdb he hpl).imp fun σ H Q ⟨δ,d,S,q,k⟩=>by
  obtain⟨ds,e1,e2⟩:=z5p q
  refine⟨noB,δ,ds,.no,S,e1,fun vs H1 s1 r1=>?_⟩
  show spN X.K F (vs++[]) H1 Q E0
  rw[aG]
  exact⟨ds,d,r1,e2,fun v H' A s' t nd fr=>k v H' A (s1.trans s') t nd fun a ha=>s1.free (fr a ha)⟩

/-! ### what is walked,by trees -/
structure ItD(K:aa)(J:It)(H:Hp)(B:Addr->Prop)(ds:List D):Prop where
 go:∀i H',Keep K B H H'->i<ds.length->J.go i H'
 stop:∀i H',Keep K B H H'->ds.length≤i->J.stop i H'
 yld:∀i H' x H2,Keep K B H H'->J.yld i H' x H2->Same H' H2∧∃d,(i<ds.length->ds[i]? = some d)∧Rep K H2 B d x
/-- also where what is not there yet is not gone through -/
def ItW(K:aa)(J:It)(H:Hp)(B:Addr->Prop)(ds:List D):Prop:=∀C:Addr->Prop,(∀a,C a->H a=none)->ItD K J H (fun a=>B a∨C a) ds
def tI(K:aa)(f:DS->Option (List D)):TI:=fun σ H R=>∃B δ ds,InB B H∧RepS K H B σ δ∧f δ=some ds∧∀J H',Same H H'->ItW K J H' B ds->R J H'
abbrev PID(X:Cx)(tg iter:Expr)(f:DS->Option (List D)):Prop:=PI X tg iter (tI X.K f)
theorem PI.imp{wi wi':TI}(h:PI X tg iter wi)(w:∀σ H R,wi' σ H R->wi σ H R):PI X tg iter wi':=fun pins s σ H R I q=>h pins s σ H R I (w σ H R q)
/-- a list or a tuple -/
def iSeq(K:aa)(tl:TE):TI:=fun σ H R=>tl σ H fun x H1=>∃a,x = .ref a∧(((∃xs,SqL K H1 a xs)∧R (Itl K a) H1)∨((∃xs,SqT K H1 a xs)∧R (Itt K a) H1))
theorem pi_seq{l:Expr}{tl:TE}(hl:PE X l tl):PI X tg l (iSeq X.K tl):=by
 intro pins s σ H R I h
 refine thn (hl pins s σ H _ I h) fun v s1 ⟨x,H1,I1,r1,q1⟩=>?_
 obtain⟨a,e,q1⟩:=q1
 subst e
 cases r1
 have fp:∀b∈[s1.heap.objs.size],z7x X pins H1 b:=fun b hb=>by
  have e:b=s1.heap.objs.size:=by simpa using hb
  subst e
  exact I1.fpOk (ak _) (I1.hok.fresh (ak _))
 rcases q1 with⟨⟨xs,hq⟩,q⟩ | ⟨⟨xs,hq⟩,q⟩
 ·obtain⟨its,rv,p,hz⟩:=I1.list hq
  refine wpAny_pyIter_list p.isList ?_
  exact⟨s1.heap.objs.size,[s1.heap.objs.size],_,_,H1,rfl,I1.kept (t':=s1.toks) fun b o e=>Heap.get?_push_of_some _ e,y4u a _,⟨_,Heap.get?_push_size _ rfl,rfl,rfl⟩,fp,q⟩
 ·obtain⟨its,rv,p,hz⟩:=I1.tuple hq
  refine wpAny_pyIter_tuple (show s1.heap.IsTuple a its.toArray from p) ?_
  exact⟨s1.heap.objs.size,[s1.heap.objs.size],_,_,H1,rfl,I1.kept (t':=s1.toks) fun b o e=>Heap.get?_push_of_some _ e,y0b a _,⟨_,Heap.get?_push_size _ rfl,rfl,rfl⟩,fp,q⟩
def z5b:D->Option (List D)
 |.lst ds=>some ds
 |.tup ds=>some ds
 |.scr ns=>some (ns.map .int)
 |_=>none
def z3Y(f:DE):DS->Option (List D):=fun δ=>(f δ).bind z5b
theorem y5h{K:aa}{H:Hp}{B:Addr->Prop}{a:Addr}{xs:List V}{ds:List D}(n:¬ B a)(h:H a=some (.lst xs))(r:Reps K H B ds xs):ItD K (Itl K a) H B ds:=by
 have hl:=r.length
 refine⟨fun i H' kp hi=>?_,fun i H' kp hi=>?_,fun i H' x H2 kp y=>?_⟩
 ·exact⟨xs,xs[i],SqL.of (kp.sl a xs n h),by rw[ae]⟩
 ·exact⟨xs,SqL.of (kp.sl a xs n h),by omega⟩
 ·obtain⟨e,y⟩:=y
  subst e
  have hx:=y xs (SqL.of (kp.sl a xs n h))
  obtain⟨d,e,rd⟩:=(Reps.keep kp ds r).get' hx
  exact⟨.refl _,d,fun _=>e,rd⟩
theorem itd_tup{K:aa}{H:Hp}{B:Addr->Prop}{a:Addr}{xs:List V}{ds:List D}(h:SqT K H a xs)(r:Reps K H B ds xs):ItD K (Itt K a) H B ds:=by
 have hl:=r.length
 refine⟨fun i H' kp hi=>?_,fun i H' kp hi=>?_,fun i H' x H2 kp y=>?_⟩
 ·exact⟨xs,xs[i],kp.st a xs h,by rw[ae]⟩
 ·exact⟨xs,kp.st a xs h,by omega⟩
 ·obtain⟨e,y⟩:=y
  subst e
  have hx:=y xs (kp.st a xs h)
  obtain⟨d,e,rd⟩:=(Reps.keep kp ds r).get' hx
  exact⟨.refl _,d,fun _=>e,rd⟩
theorem z2a{K:aa}{H:Hp}{B:Addr->Prop}:∀ns:List Int,Reps K H B (ns.map D.int) (ns.map V.int)
 |[]=>.nil
 |n::ns=>.cons rfl (z2a ns)
theorem itd_scr{K:aa}{H:Hp}{B:Addr->Prop}{a:Addr}{ns:List Int}(h:SqF K H a (ns.map V.int)):ItD K (Itl K a) H B (ns.map D.int):=by
 have r:∀H',Reps K H' B (ns.map D.int) (ns.map V.int):=fun _=>z2a ns
 refine⟨fun i H' kp hi=>?_,fun i H' kp hi=>?_,fun i H' x H2 kp y=>?_⟩
 ·exact⟨ns.map V.int,(ns.map V.int)[i]'(by simpa using hi),(kp.sf a _ h).sq,by rw[ae]⟩
 ·exact⟨ns.map V.int,(kp.sf a _ h).sq,by simpa using hi⟩
 ·obtain⟨e,y⟩:=y
  subst e
  have hx:=y _ (kp.sf a _ h).sq
  obtain⟨d,e,rd⟩:=(r _).get' hx
  exact⟨.refl _,d,fun _=>e,rd⟩
theorem z0A{l:Expr}{f:DE}(h:PD X l f):PID X tg l (z3Y f):=(pi_seq h).imp fun σ H R ⟨B,δ,ds,hB,S,q,k⟩=>by
 unfold z3Y at q
 cases e:f δ with
 |none=>rw[e]at q;cases q
 |some d=>
  rw[e]at q
  have q':z5b d=some ds:=q
  refine⟨B,δ,d,hB,S,e,fun v H1 s1 r1=>?_⟩
  unfold z5b at q'
  split at q'
  ·cases q'
   unfold Rep at r1
   obtain⟨a,xs,rfl,n,h,r⟩:=r1
   exact⟨a,rfl,.inl ⟨⟨xs,SqL.of h⟩,k _ H1 s1 fun C hC=>y5h (fun z=>z.elim n fun z=>by rw[hC a z]at h;cases h) h (Reps.wide hC _ r)⟩⟩
  ·cases q'
   unfold Rep at r1
   obtain⟨a,xs,rfl,h,r⟩:=r1
   exact⟨a,rfl,.inr ⟨⟨xs,h⟩,k _ H1 s1 fun C hC=>itd_tup h (Reps.wide hC _ r)⟩⟩
  ·cases q'
   unfold Rep at r1
   obtain⟨a,rfl,h⟩:=r1
   exact⟨a,rfl,.inl ⟨⟨_,h.sq⟩,k _ H1 s1 fun C hC=>itd_scr h⟩⟩
  ·cases q'
/-- lo,lo+1,.. -/
def z4h(lo:Int)(n:Nat):List D:=(ar n).map fun i=>.int (lo+(i:Nat))
theorem z9D{lo:Int}{n i:Nat}(h:i<n):(z4h lo n)[i]? = some (.int (lo+i)):=by
 unfold z4h
 rw[aL,dF h]
 rfl
theorem z2p(lo:Int)(n:Nat):(z4h lo n).length=n:=by unfold z4h;rw[ah,bQ]
theorem y1u{K:aa}{H:Hp}{B:Addr->Prop}{lo:Int}{n:Nat}:ItD K (Itr lo n) H B (z4h lo n):=by
 refine⟨fun i H' _ hi=>?_,fun i H' _ hi=>?_,fun i H' x H2 _ y=>?_⟩
 ·rw[z2p]at hi;exact hi
 ·rw[z2p]at hi;exact hi
 ·obtain⟨e,y⟩:=y
  subst e y
  exact⟨.refl _,.int (lo+i),fun h=>z9D (by rwa [z2p]at h),rfl⟩
def z4d(f:DE):DS->Option (List D):=fun δ=>match f δ with
 |some (.int j)=>if -(2 ^ 62)≤j∧j<2 ^ 62 then some (z4h 0 j.toNat)else none
 |_=>none
def y4N(f g:DE):DS->Option (List D):=fun δ=>match f δ,g δ with
 |some (.int i),some (.int j)=>if -(2 ^ 62)≤i∧i<2 ^ 62∧-(2 ^ 62)≤j∧j<2 ^ 62 then some (z4h i (j - i).toNat)else none
 |_,_=>none
theorem z2k{f:DE}(hg:Gl X "range")(hm:X.mg "range" = none)(ha:PD X a f)(hs:starEach [a] X.env=[(false,eval a X.env)]:=by rfl):PID X tg (.Call (.Name "range" p) [a] [] pos) (z4d f):=
 (z7t hg hm (z0a ha z0d hs) hs).imp fun σ H R ⟨B,δ,ds,hB,S,q,k⟩=>by
  unfold z4d at q
  split at q
  ·rename_i j e
   split at q
   ·rename_i hj
    cases q
    have ea:z0k [f] δ=some [.int j]:=by unfold z0k;rw[e];rfl
    refine⟨B,δ,[.int j],hB,S,ea,fun vs H1 s1 r1=>?_⟩
    unfold Reps at r1
    obtain⟨x,r,rfl,rx,rr⟩:=r1
    unfold Reps at rr
    subst rr
    exact⟨j,by rw[show x=V.int j from rx],hj.1,hj.2,k _ H1 s1 fun C _=>y1u⟩
   ·cases q
  ·cases q
theorem pi_rng2{f g:DE}(hg:Gl X "range")(hm:X.mg "range" = none)(ha:PD X a f)(hb:PD X b g)(hs:starEach [a,b] X.env=[(false,eval a X.env),(false,eval b X.env)]:=by rfl)(hs2:starEach [b] X.env=[(false,eval b X.env)]:=by rfl):
  PID X tg (.Call (.Name "range" p) [a,b] [] pos) (y4N f g):=
 (y1y hg hm (z0a ha (z0a hb z0d hs2) (by rw[hs,hs2])) hs hs2).imp fun σ H R ⟨B,δ,ds,hB,S,q,k⟩=>by
  unfold y4N at q
  split at q
  ·rename_i i j e e'
   split at q
   ·rename_i hj
    cases q
    have ea:z0k [f,g] δ=some [.int i,.int j]:=by unfold z0k z0k;rw[e,e'];rfl
    refine⟨B,δ,[.int i,.int j],hB,S,ea,fun vs H1 s1 r1=>?_⟩
    unfold Reps at r1
    obtain⟨x,r,rfl,rx,rr⟩:=r1
    unfold Reps at rr
    obtain⟨y,r',rfl,ry,rr⟩:=rr
    unfold Reps at rr
    subst rr
    exact⟨i,j,by rw[show x=V.int i from rx,show y=V.int j from ry],hj,k _ H1 s1 fun C _=>y1u⟩
   ·cases q
  ·cases q

/-! ### [elt for x in iter if c] -/
def consO:Option D->List D->List D
 |some y,ys=>y::ys
 |none,ys=>ys
def z1V(h:D->Option (Option D)):List D->Option (List D)
 |[]=>some []
 |x::r=>(h x).bind fun o=>(z1V h r).bind fun ys=>some (consO o ys)
theorem z5k{h:D->Option (Option D)}{x:D}{r ds:List D}(e:z1V h (x::r)=some ds):∃o ys,h x=some o∧z1V h r=some ys∧ds=consO o ys:=by
 unfold z1V at e
 cases q:h x with
 |none=>rw[q]at e;cases e
 |some o=>
  rw[q]at e
  have e':((z1V h r).bind fun ys=>some (consO o ys))=some ds:=e
  cases q':z1V h r with
  |none=>rw[q']at e';cases e'
  |some ys=>
   rw[q']at e'
   exact⟨o,ys,rfl,rfl,(Option.some.inj e').symm⟩
def z0T(fi:DS->Option (List D))(fc:DS->Option Bool)(fe:DE):DS->Option (List D):=fun δ=>(fi δ).bind fun xs=>if xs.length≤sizeLine then
 z1V (fun x=>(fc (δ++[some x])).bind fun k=>if k=true then(fe (δ++[some x])).map some else some none) xs else none
def z2D:DS->Option Bool:=fun _=>some true
theorem z0v{X:Cx}:y4y X [] (tT X.K z2D):=fun pins s σ H Q I ⟨B,δ,b,hB,S,q,k⟩=>y5r pins s σ H Q I (by cases q;exact k H (.refl H))
theorem z7p{X:Cx}{c:Expr}{f:DS->Option Bool}(h:PTD X c f):y4y X [c] (tT X.K f):=y4C h

theorem RepS.snoc{K:aa}{H:Hp}{B:Addr->Prop}{σ:St}{δ:DS}{d:D}{v:V}(S:RepS K H B σ δ)(r:Rep K H B d v):RepS K H B (σ++[some v]) (δ++[some d]):=by
 refine⟨by simp[S.len],fun i d' e=>?_⟩
 by_cases hi:i<δ.length
 ·rw[aN hi]at e
  obtain⟨w,e',r'⟩:=S.get i d' e
  exact⟨w,by rw[aN (by rw[←S.len];exact hi)];exact e',r'⟩
 ·by_cases hj:i=δ.length
  ·subst hj
   rw[bp (ak _),Nat.sub_self]at e
   cases e
   refine⟨v,?_,r⟩
   rw[S.len,bp (ak _),Nat.sub_self]
   rfl
  ·rw[dv (by simp;omega)]at e
   cases e
theorem RepS.keep{K:aa}{H H':Hp}{B:Addr->Prop}{σ:St}{δ:DS}(h:RepS K H B σ δ)(kp:Keep K B H H'):RepS K H' B σ δ:=
 ⟨h.len,fun i d q=>let⟨v,a,r⟩:=h.get i d q;⟨v,a,Rep.keep kp d r⟩⟩
theorem RepS.wide{K:aa}{H:Hp}{B C:Addr->Prop}{σ:St}{δ:DS}(h:RepS K H B σ δ)(hc:∀a,C a->H a=none):RepS K H (fun a=>B a∨C a) σ δ:=
 ⟨h.len,fun i d q=>let⟨v,a,r⟩:=h.get i d q;⟨v,a,Rep.wide hc d r⟩⟩
theorem Keep.trans{K:aa}{B:Addr->Prop}{H H1 H2:Hp}(a:Keep K B H H1)(b:Keep K B H1 H2):Keep K B H H2:=
 ⟨fun x xs n h=>b.sl x xs n (a.sl x xs n h),fun x xs h=>b.st x xs (a.st x xs h),fun x xs h=>b.sf x xs (a.sf x xs h),fun x xs n h=>b.sd x xs n (a.sd x xs n h),fun x xs n h=>b.sx x xs n (a.sx x xs n h),fun x C dx fs n h=>b.si x C dx fs n (a.si x C dx fs n h)⟩
theorem Keep.anti{K:aa}{B B':Addr->Prop}{H H1:Hp}(a:Keep K B H H1)(h:∀x,B x->B' x):Keep K B' H H1:=
 ⟨fun x xs n q=>a.sl x xs (fun z=>n (h x z)) q,a.st,a.sf,fun x xs n q=>a.sd x xs (fun z=>n (h x z)) q,fun x xs n q=>a.sx x xs (fun z=>n (h x z)) q,fun x C dx fs n q=>a.si x C dx fs (fun z=>n (h x z)) q⟩
theorem z5L{w v:Option V}:∀{σ:St},(σ++[w]).set σ.length v=σ++[v]
 |[]=>rfl
 |x::r=>congrArg (x :: ·) (z5L (σ:=r))

variable{N':List Str}{sc:d5}{ifs:List Expr}{n:Nat}{px:Pos}{fi:DS->Option (List D)}{fc:DS->Option Bool}{fe:DE}

theorem z9l{σ:St}{H:Hp}{Q:VK}(hσ:σ.length=n)(hq:tF X.K (z0T fi fc fe) σ H Q):y4B (tI X.K fi) (z2B n) (tT X.K fc) (tD X.K fe) 1 σ H Q:=by
 obtain⟨B,δ,ds,hB,Sδ,q,k⟩:=hq
 unfold z0T at q
 cases e1:fi δ with
 |none=>rw[e1]at q;cases q
 |some xs=>
 rw[e1]at q
 have q1:(if xs.length≤sizeLine then z1V (fun x=>(fc (δ++[some x])).bind fun k=>if k=true then(fe (δ++[some x])).map some else some none) xs else none)=some ds:=q
 split at q1
 case isFalse=>cases q1
 case isTrue hsz=>
 refine⟨B,δ,xs,hB,Sδ,e1,fun J H1 s1 itw=>fun Da hD=>?_⟩
 have hD0:H Da=none:=s1.free hD
 have it:=itw (fun a=>a=Da) fun a ha=>by rw[ha];exact hD
 have Sw:RepS X.K H1 (fun a=>B a∨a=Da) σ δ:=(Sδ.mono s1).wide fun a ha=>by rw[ha];exact hD
 -- within the block the new list is not gone through
 refine⟨fun i m σ' H'=>m=xs.length - i∧i≤xs.length∧(∃w,σ'=σ++[w])∧Same H1 H'∧∃ys dn rs,H' Da=some (.lst ys)∧Reps X.K H' (fun a=>B a∨a=Da) dn ys∧ds=dn++rs∧dn.length≤i ∧
  z1V (fun x=>(fc (δ++[some x])).bind fun k=>if k=true then(fe (δ++[some x])).map some else some none) (xs.drop i)=some rs,
  ⟨xs.length,by simp,bn _,⟨none,rfl⟩,z0t hD,[],[],ds,z0s,.nil,rfl,ak _,q1⟩,?_⟩
 rintro i m σ' H' ⟨rfl,hi',⟨w,rfl⟩,sm,ys,dn,rs,hys,rys,hds,hln,hrs⟩
 have kp:Keep X.K (fun a=>B a∨a=Da) H1 H':=.same sm
 by_cases hlt:i<xs.length
 ·refine .inr ⟨it.go i H' kp hlt,fun σ'' H''=>(i+1≤xs.length∧(∃w,σ''=σ++[w])∧Same H1 H''∧∃ys dn rs,H'' Da=some (.lst ys)∧Reps X.K H'' (fun a=>B a∨a=Da) dn ys∧ds=dn++rs∧dn.length≤i+1 ∧
   z1V (fun x=>(fc (δ++[some x])).bind fun k=>if k=true then(fe (δ++[some x])).map some else some none) (xs.drop (i+1))=some rs),fun σ'' H'' h=>⟨xs.length - (i+1),by omega,rfl,h⟩,fun xv H2 hy=>?_⟩
  obtain⟨s2,d,hd,rd⟩:=it.yld i H' xv H2 kp hy
  have hdi:=hd hlt
  have hx:xs.drop i=d::xs.drop (i+1):=by
   obtain⟨hl,e⟩:=aV.mp hdi
   rw[ba hl,e]
  rw[hx]at hrs
  obtain⟨o,rs',e2,e3,e4⟩:=z5k hrs
  show tT X.K fc ((σ++[w]).set n (some xv)) H2 _
  rw[←hσ,z5L]
  have hB1:InB (fun a=>B a∨a=Da) H2:=fun a ha=>ha.elim (fun z=>(((hB.mono s1).mono sm).mono s2) a z) fun z=>⟨_,s2 _ _ (z ▸ hys)⟩
  have S2:RepS X.K H2 (fun a=>B a∨a=Da) (σ++[some xv]) (δ++[some d]):=((Sw.mono sm).mono s2).snoc rd
  have hl2:ys.length<sizeLine:=by
   have:=rys.length
   omega
  cases ec:fc (δ++[some d])with
  |none=>rw[ec]at e2;cases e2
  |some kk=>
   rw[ec]at e2
   have e2':(if kk=true then(fe (δ++[some d])).map some else some none)=some o:=e2
   refine⟨_,δ++[some d],kk,hB1,S2,ec,fun H3 s3=>?_⟩
   cases kk with
   |false=>
    rw[if_neg aj]at e2'
    rw[if_neg aj]
    cases e2'
    exact⟨hlt,⟨_,rfl⟩,(sm.trans s2).trans s3,ys,dn,rs',s3 _ _ (s2 _ _ hys),(rys.mono s2).mono s3,by rw[hds,e4];rfl,Nat.le_succ_of_le hln,e3⟩
   |true=>
    rw[if_pos rfl]at e2'
    rw[if_pos rfl]
    cases ey:fe (δ++[some d])with
    |none=>rw[ey]at e2';cases e2'
    |some y=>
     rw[ey]at e2'
     cases e2'
     refine⟨_,δ++[some d],y,hB1.mono s3,S2.mono s3,ey,fun yv H5 s5 r5=>⟨ys,s5 _ _ (s3 _ _ (s2 _ _ hys)),hl2,?_⟩⟩
     have hu:H5 Da=some (.lst ys):=s5 _ _ (s3 _ _ (s2 _ _ hys))
     refine⟨hlt,⟨_,rfl⟩,fun b u hb=>?_,ys++[yv],dn++[y],rs',z0s,?_,by rw[hds,e4,aQ];rfl,by rw[av];simp;omega,e3⟩
     ·rw[z0n (z1f hb hD)]
      exact s5 _ _ (s3 _ _ (s2 _ _ (sm _ _ hb)))
     ·exact Reps.keep (.upd (.inr rfl) (by rw[hu];exact trivial)) _ (((rys.mono s2).mono s3 |>.mono s5).snoc r5)
 ·have e:i=xs.length:=by omega
  subst e
  refine .inl ⟨it.stop _ H' kp (ak _),?_⟩
  rw[bU]at hrs
  cases hrs
  rw[aG]at hds
  subst hds
  exact k Da ys H' (s1.trans sm) hD0 hys (rys.anti fun a z=>.inl z)
theorem z4I(hc:X.calm=true)(S:CompScope X.N X.env.scope.names N' 1 sc)(hn:n=X.N.length)(hi:PID X (.Name x px) iter fi)
  (hg:∀s H fp pins E,PG (z0z X N' sc s H fp pins E) (.Name x px) (z2B n)) (ht:∀s H fp pins E,y4y (z0z X N' sc s H fp pins E) ifs (tT X.K fc)) (he:∀s H fp pins E,PE (z0z X N' sc s H fp pins E) elt (tD X.K fe))
  (hs:∀x,foldedSetIterable iter X.env x=pure x:=by intro _;rfl):PF X (.ListComp elt [⟨.Name x px,iter,ifs,0⟩] sc pos) (z0T fi fc fe):=by
 intro pins s σ H Q I hq
 exact y1c hc S hi ⟨hg,ht,he⟩ hs pins s σ H Q I (z9l (by rw[hn,I.len]) hq)
/-- name=[..] on one row -/
theorem y7Q{i:Nat}{y:Str}{py spos:Pos}(hN:X.N.Nodup)(hy:X.N[i]? = some y)(hyl:X.env.scope.names.lookup y=some .local)(hc:X.calm=true)(S:CompScope X.N X.env.scope.names N' 1 sc)(hn:n=X.N.length)(hi:PID X (.Name x px) iter fi)
  (hg:∀s H fp pins E,PG (z0z X N' sc s H fp pins E) (.Name x px) (z2B n)) (ht:∀s H fp pins E,y4y (z0z X N' sc s H fp pins E) ifs (tT X.K fc)) (he:∀s H fp pins E,PE (z0z X N' sc s H fp pins E) elt (tD X.K fe))
  (hsw:swapsWith (.ListComp elt [⟨.Name x px,iter,ifs,0⟩] sc pos) (some (.Name y py)) spos.line X.env=pure true:=by rfl) (hs:∀x,foldedSetIterable iter X.env x=pure x:=by intro _;rfl):
  PS X (.Assign [.Name y py] (.ListComp elt [⟨.Name x px,iter,ifs,0⟩] sc pos) spos) (tAsg (tF X.K (z0T fi fc fe)) (z2B i)):=by
 intro pins s σ H D I hq
 exact y0Q hc S hN hy hyl hi ⟨hg,ht,he⟩ hsw hs pins s σ H D I (z9l (by rw[hn,I.len]) hq)
end
end L2

/-! ### E5: statements by trees;each slot shared,owned (its lists are the def's own,and no one else's),or lent by an owned one -/
namespace L2
open PySem PySem.Spec PyProof.Rows

inductive SD where
 |sh (d:D) | ow (d:D) | bo (r:Nat) (d:D)
abbrev SS:=List (Option SD)
def SD.val:SD->D
 |.sh d=>d
 |.ow d=>d
 |.bo _ d=>d
/-- what a look may see: all;the shared alone -/
def z0i(δ:SS):DS:=δ.map (Option.map SD.val)
def shO:Option SD->Option D
 |some (.sh d)=>some d
 |_=>none
def shV(δ:SS):DS:=δ.map shO

structure RS(K:aa)(H0:Hp)(B0:Addr->Prop)(H:Hp)(σ:St)(δ:SS)(R:Nat->List Addr):Prop where
 keep:Same H0 H
 inB:InB B0 H0
 len:δ.length=σ.length
 new:∀r a,a∈R r->H0 a=none
 held:∀r a,a∈R r->∃o,H a=some o∧Mut (some o)
 disj:∀r s a,a∈R r->a∈R s->r=s
 sh:∀(i:Nat) (d:D),δ[i]? = some (some (.sh d))->∃v,σ[i]? = some (some v)∧Rep K H (fun a=>B0 a∨∃r,a∈R r) d v
 bo:∀(i r:Nat) (d:D),δ[i]? = some (some (.bo r d))->∃v,σ[i]? = some (some v)∧Rep K H (fun a=>B0 a∨∃s,s≠r∧a∈R s) d v
 ow:∀(i:Nat) (d:D),δ[i]? = some (some (.ow d))->∃v,σ[i]? = some (some v)∧Tree K H d v (R i)∧(R i).Nodup
/-- what a step may do -/
structure Stp(R:Nat->List Addr)(H:Hp)(R':Nat->List Addr)(H':Hp):Prop where
 keep:∀a o,H a=some o->(∀r,a∉R r)->H' a=some o
 from':∀r a,a∈R' r->(∃s,a∈R s)∨H a=none
 there:∀a,H' a=none->H a=none
theorem Stp.refl(R:Nat->List Addr)(H:Hp):Stp R H R H:=⟨fun _ _ h _=>h,fun r _ h=>.inl ⟨r,h⟩,fun _ h=>h⟩
theorem Stp.trans{R R1 R2:Nat->List Addr}{H H1 H2:Hp}(a:Stp R H R1 H1)(b:Stp R1 H1 R2 H2):Stp R H R2 H2:=by
 refine⟨fun x o h n=>b.keep x o (a.keep x o h n) fun r hr=>?_,fun r x h=>?_,fun x h=>a.there x (b.there x h)⟩
 ·rcases a.from' r x hr with⟨s,z⟩ | z
  ·exact n s z
  ·rw[h]at z;cases z
 ·rcases b.from' r x h with⟨s,z⟩ | z
  ·exact a.from' s x z
  ·exact .inr (a.there x z)
theorem Stp.same{R:Nat->List Addr}{H H':Hp}(e:Same H H'):Stp R H R H':=⟨fun a o h _=>e a o h,fun r _ h=>.inl ⟨r,h⟩,fun _ h=>e.free h⟩

section
variable{K:aa}{H0 H H':Hp}{B0:Addr->Prop}{σ:St}{δ:SS}{R:Nat->List Addr}
theorem z9H{i:Nat}{d:D}(h:(z0i δ)[i]? = some (some d)):∃x,δ[i]? = some (some x)∧x.val=d:=by
 unfold z0i at h
 rw[aL]at h
 cases e:δ[i]? with
 |none=>rw[e]at h;cases h
 |some o=>
  rw[e]at h
  cases o with
  |none=>cases h
  |some x=>cases h;exact⟨x,rfl,rfl⟩
theorem shV_get{i:Nat}{d:D}(h:(shV δ)[i]? = some (some d)):δ[i]? = some (some (.sh d)):=by
 unfold shV at h
 rw[aL]at h
 cases e:δ[i]? with
 |none=>rw[e]at h;cases h
 |some o=>
  rw[e]at h
  have h':shO o=some d:=Option.some.inj h
  unfold shO at h'
  split at h'
  ·cases h';rfl
  ·cases h'
theorem RS.all(h:RS K H0 B0 H σ δ R):RepS K H noB σ (z0i δ):=by
 refine⟨by unfold z0i;rw[ah];exact h.len,fun i d e=>?_⟩
 obtain⟨x,e',rfl⟩:=z9H e
 cases x with
 |sh d=>
  obtain⟨v,e1,r⟩:=h.sh i d e'
  exact⟨v,e1,r.anti fun _ z=>z.elim⟩
 |bo r d=>
  obtain⟨v,e1,r⟩:=h.bo i r d e'
  exact⟨v,e1,r.anti fun _ z=>z.elim⟩
 |ow d=>
  obtain⟨v,e1,t,_⟩:=h.ow i d e'
  exact⟨v,e1,t.rep d fun _ _ z=>z.elim⟩
theorem RS.shr(h:RS K H0 B0 H σ δ R):RepS K H (fun a=>B0 a∨∃r,a∈R r) σ (shV δ):=by
 refine⟨by unfold shV;rw[ah];exact h.len,fun i d e=>h.sh i d (shV_get e)⟩
theorem RS.inAll(h:RS K H0 B0 H σ δ R):InB (fun a=>B0 a∨∃r,a∈R r) H:=fun a ha=>by
 rcases ha with z | ⟨r,z⟩
 ·exact(h.inB.mono h.keep) a z
 ·obtain⟨o,e,_⟩:=h.held r a z
  exact⟨o,e⟩
theorem RS.mono(h:RS K H0 B0 H σ δ R)(e:Same H H'):RS K H0 B0 H' σ δ R:=by
 refine⟨h.keep.trans e,h.inB,h.len,h.new,fun r a z=>?_,h.disj,fun i d z=>?_,fun i r d z=>?_,fun i d z=>?_⟩
 ·obtain⟨o,e1,m⟩:=h.held r a z
  exact⟨o,e a o e1,m⟩
 ·obtain⟨v,e1,r⟩:=h.sh i d z
  exact⟨v,e1,r.mono e⟩
 ·obtain⟨v,e1,r⟩:=h.bo i r d z
  exact⟨v,e1,r.mono e⟩
 ·obtain⟨v,e1,t,nd⟩:=h.ow i d z
  exact⟨v,e1,t.mono e,nd⟩
/-- a slot is given something shared -/
theorem RS.setSh{i:Nat}{d:D}{v:V}(h:RS K H0 B0 H σ δ R)(r:Rep K H (fun a=>B0 a∨∃r,a∈R r) d v):RS K H0 B0 H (σ.set i (some v)) (δ.set i (some (.sh d))) R:=by
 have gs:∀{α:Type} {l:List (Option α)} {i j:Nat} {x:Option α} {y:α},(l.set i x)[j]? = some (some y)->(j=i∧x=some y)∨(j≠i∧l[j]? = some (some y)):=fun {α l i j x y} e=>by
  by_cases hj:j=i
  ·subst hj
   rw[bR]at e
   simp only[if_true]at e
   split at e
   ·exact .inl ⟨rfl,Option.some.inj e⟩
   ·cases e
  ·rw[aE (Ne.symm hj)]at e
   exact .inr ⟨hj,e⟩
 have up:∀{j:Nat} {w:V},j≠i->σ[j]? = some (some w)->(σ.set i (some v))[j]? = some (some w):=fun hj e=>by rw[aE (Ne.symm hj)];exact e
 refine⟨h.keep,h.inB,by simp[h.len],h.new,h.held,h.disj,fun j d' z=>?_,fun j r' d' z=>?_,fun j d' z=>?_⟩
 ·rcases gs z with⟨rfl,q⟩ | ⟨hj,q⟩
  ·cases q
   have hl:j<σ.length:=by
    rw[←h.len]
    by_cases hl:j<δ.length
    ·exact hl
    ·rw[dv (by simp;omega)]at z;cases z
   exact⟨v,by rw[bR];simp[hl],r⟩
  ·obtain⟨w,e1,r⟩:=h.sh j d' q
   exact⟨w,up hj e1,r⟩
 ·rcases gs z with⟨rfl,q⟩ | ⟨hj,q⟩
  ·cases q
  ·obtain⟨w,e1,r⟩:=h.bo j r' d' q
   exact⟨w,up hj e1,r⟩
 ·rcases gs z with⟨rfl,q⟩ | ⟨hj,q⟩
  ·cases q
  ·obtain⟨w,e1,t⟩:=h.ow j d' q
   exact⟨w,up hj e1,t⟩
def z5G(R:Nat->List Addr)(i:Nat)(A:List Addr):Nat->List Addr:=fun r=>if r=i then A else R r
theorem z0N{i:Nat}{A:List Addr}:z5G R i A i=A:=if_pos rfl
theorem z1A{i r:Nat}{A:List Addr}(h:r≠i):z5G R i A r=R r:=if_neg h
theorem z1r{α:Type}{l:List (Option α)}{i j:Nat}{x:Option α}{y:α}(e:(l.set i x)[j]? = some (some y)):(j=i∧x=some y∧i<l.length)∨(j≠i∧l[j]? = some (some y)):=by
 by_cases hj:j=i
 ·subst hj
  rw[bR]at e
  simp only[if_true]at e
  split at e
  ·rename_i hl
   exact .inl ⟨rfl,Option.some.inj e,hl⟩
  ·cases e
 ·rw[aE (Ne.symm hj)]at e
  exact .inr ⟨hj,e⟩
/-- a slot is given a tree all new since Hold -/
theorem RS.setOw{Hold:Hp}{i:Nat}{d:D}{v:V}{A:List Addr}(h:RS K H0 B0 Hold σ δ R)(e:Same Hold H)(t:Tree K H d v A)(nd:A.Nodup)(fr:∀a∈A,Hold a=none):RS K H0 B0 H (σ.set i (some v)) (δ.set i (some (.ow d))) (z5G R i A):=by
 have hm:=h.mono e
 have up:∀{j:Nat} {w:V},j≠i->σ[j]? = some (some w)->(σ.set i (some v))[j]? = some (some w):=fun hj e=>by rw[aE (Ne.symm hj)];exact e
 have hA:∀r a,a∈R r->a∉A:=fun r a z z'=>by
  obtain⟨o,q,_⟩:=h.held r a z
  rw[fr a z']at q;cases q
 have mem:∀r a,a∈z5G R i A r->(r=i∧a∈A)∨(r≠i∧a∈R r):=fun r a z=>by
  by_cases hr:r=i
  ·subst hr;rw[z0N]at z;exact .inl ⟨rfl,z⟩
  ·rw[z1A hr]at z;exact .inr ⟨hr,z⟩
 refine⟨hm.keep,h.inB,by simp[h.len],fun r a z=>?_,fun r a z=>?_,fun r s a z z'=>?_,fun j d' z=>?_,fun j r' d' z=>?_,fun j d' z=>?_⟩
 ·rcases mem r a z with⟨_,z⟩ | ⟨_,z⟩
  ·exact h.keep.free (fr a z)
  ·exact h.new r a z
 ·rcases mem r a z with⟨_,z⟩ | ⟨_,z⟩
  ·exact t.held d a z
  ·exact hm.held r a z
 ·rcases mem r a z with⟨h1,z⟩ | ⟨h1,z⟩ <;> rcases mem s a z' with⟨h2,z'⟩ | ⟨h2,z'⟩
  ·rw[h1,h2]
  ·exact absurd z (hA s a z')
  ·exact absurd z' (hA r a z)
  ·exact h.disj r s a z z'
 ·rcases z1r z with⟨rfl,q,_⟩ | ⟨hj,q⟩
  ·cases q
  ·obtain⟨w,e1,r⟩:=h.sh j d' q
   refine⟨w,up hj e1,Rep.anti ?_ d' ((Rep.wide (C:=fun a=>a∈A) fr d' r).mono e)⟩
   rintro a (z | ⟨r,z⟩)
   ·exact .inl (.inl z)
   ·rcases mem r a z with⟨_,z⟩ | ⟨_,z⟩
    ·exact .inr z
    ·exact .inl (.inr ⟨r,z⟩)
 ·rcases z1r z with⟨rfl,q,_⟩ | ⟨hj,q⟩
  ·cases q
  ·obtain⟨w,e1,r⟩:=h.bo j r' d' q
   refine⟨w,up hj e1,Rep.anti ?_ d' ((Rep.wide (C:=fun a=>a∈A) fr d' r).mono e)⟩
   rintro a (z | ⟨s,hs,z⟩)
   ·exact .inl (.inl z)
   ·rcases mem s a z with⟨_,z⟩ | ⟨_,z⟩
    ·exact .inr z
    ·exact .inl (.inr ⟨s,hs,z⟩)
 ·rcases z1r z with⟨rfl,q,hl⟩ | ⟨hj,q⟩
  ·cases q
   rw[z0N]
   exact⟨v,by rw[bR];simp[←h.len,hl],t,nd⟩
  ·obtain⟨w,e1,t'⟩:=hm.ow j d' q
   rw[z1A hj]
   exact⟨w,up hj e1,t'⟩
/-- an owned slot becomes shared -/
def y4A(i:Nat)(δ:SS):SS:=match δ[i]? with
 |some (some (.ow d))=>δ.set i (some (.sh d))
 |_=>δ
theorem RS.frz(i:Nat)(h:RS K H0 B0 H σ δ R):∃R',RS K H0 B0 H σ (y4A i δ) R'∧∀r a,a∈R' r->a∈R r:=by
 unfold y4A
 split
 ·rename_i d e
  obtain⟨v,e1,t,nd⟩:=h.ow i d e
  refine⟨z5G R i [],?_,fun r a z=>?_⟩
  ·have mem:∀r a,a∈z5G R i [] r->r≠i∧a∈R r:=fun r a z=>by
    by_cases hr:r=i
    ·subst hr;rw[z0N]at z;cases z
    ·rw[z1A hr]at z;exact⟨hr,z⟩
   refine⟨h.keep,h.inB,by simp[h.len],fun r a z=>h.new r a (mem r a z).2,fun r a z=>h.held r a (mem r a z).2,fun r s a z z'=>h.disj r s a (mem r a z).2 (mem s a z').2,fun j d' z=>?_,fun j r' d' z=>?_,fun j d' z=>?_⟩
   ·rcases z1r z with⟨rfl,q,hl⟩ | ⟨hj,q⟩
    ·cases q
     refine⟨v,e1,t.rep d fun a ha=>?_⟩
     rintro (z | ⟨r,z⟩)
     ·obtain⟨o,q⟩:=h.inB a z
      rw[h.new j a ha]at q;cases q
     ·exact(mem r a z).1 (h.disj r j a (mem r a z).2 ha)
    ·obtain⟨w,e2,r⟩:=h.sh j d' q
     exact⟨w,e2,r.anti fun a z=>z.imp id fun⟨r,z⟩=>⟨r,(mem r a z).2⟩⟩
   ·rcases z1r z with⟨rfl,q,_⟩ | ⟨hj,q⟩
    ·cases q
    ·obtain⟨w,e2,r⟩:=h.bo j r' d' q
     exact⟨w,e2,r.anti fun a z=>z.imp id fun⟨s,hs,z⟩=>⟨s,hs,(mem s a z).2⟩⟩
   ·rcases z1r z with⟨rfl,q,_⟩ | ⟨hj,q⟩
    ·cases q
    ·rw[z1A hj]
     exact h.ow j d' q
  ·by_cases hr:r=i
   ·subst hr;rw[z0N]at z;cases z
   ·rw[z1A hr]at z;exact z
 ·exact⟨R,h,fun _ _ z=>z⟩
end

/-! ### what comes of a statement -/
inductive Out where
 |nx (δ:SS) | bk (δ:SS) | ct (δ:SS) | rt (d:D) | rb (d:D) (δ:SS) | ex (c:Nat) (δ:SS)
/-- what is wanted of an exception: its class,the slots and the heap where it was raised -/
abbrev XR:=Nat->St->Hp->Prop
abbrev noX:XR:=fun _ _ _=>False
def Ret(K:aa)(H0:Hp)(B0:Addr->Prop)(fr:Bool)(H:Hp)(d:D)(v:V):Prop:=
 Same H0 H∧(fr=true->∃A,Tree K H d v A∧A.Nodup∧∀a∈A,H0 a=none)∧(fr=false->Rep K H B0 d v)
def Aft(K:aa)(H0:Hp)(B0:Addr->Prop)(fr:Bool)(RX:XR)(R:Nat->List Addr)(H:Hp)(D:Ends):Out->Prop
 |.nx δ'=>∀σ' H' R',RS K H0 B0 H' σ' δ' R'->Stp R H R' H'->D.nx σ' H'
 |.bk δ'=>∀σ' H' R',RS K H0 B0 H' σ' δ' R'->Stp R H R' H'->D.bk σ' H'
 |.ct δ'=>∀σ' H' R',RS K H0 B0 H' σ' δ' R'->Stp R H R' H'->D.ct σ' H'
 |.rt d=>∀v H',Ret K H0 B0 fr H' d v->(∀a,H' a=none->H a=none)->D.rt v H'
 |.rb d δ'=>∀v σ' H' R' A2,RS K H0 B0 H' σ' δ' R'->Stp R H R' H'->Tree K H' d v A2->A2.Nodup->(∀a∈A2,H0 a=none∧∀r,a∉R' r)->D.rt v H'
 |.ex c δ'=>∀σ' H' R',RS K H0 B0 H' σ' δ' R'->Stp R H R' H'->RX c σ' H'
def tS(K:aa)(H0:Hp)(B0:Addr->Prop)(fr:Bool)(RX:XR)(g:SS->Option Out):TS:=fun D σ H=>∃δ R o,RS K H0 B0 H σ δ R∧g δ=some o∧Aft K H0 B0 fr RX R H D o
theorem Aft.back{K:aa}{H0:Hp}{B0:Addr->Prop}{fr:Bool}{RX:XR}{R R1:Nat->List Addr}{H H1:Hp}{D:Ends}{o:Out}(h:Aft K H0 B0 fr RX R H D o)(s:Stp R H R1 H1):Aft K H0 B0 fr RX R1 H1 D o:=by
 cases o with
 |nx δ'=>exact fun σ' H' R' r t=>h σ' H' R' r (s.trans t)
 |bk δ'=>exact fun σ' H' R' r t=>h σ' H' R' r (s.trans t)
 |ct δ'=>exact fun σ' H' R' r t=>h σ' H' R' r (s.trans t)
 |rt d=>exact fun v H' r t=>h v H' r fun a z=>s.there a (t a z)
 |rb d δ'=>exact fun v σ' H' R' A2 r t=>h v σ' H' R' A2 r (s.trans t)
 |ex c δ'=>exact fun σ' H' R' r t=>h σ' H' R' r (s.trans t)
theorem PS.imp{X:Cx}{st:Stmt}{t t':TS}(h:PS X st t)(w:∀D σ H,t' D σ H->t D σ H):PS X st t':=fun pins s σ H D I q=>h pins s σ H D I (w D σ H q)
theorem PSs.imp{X:Cx}{st:List Stmt}{t t':TS}(h:PSs X st t)(w:∀D σ H,t' D σ H->t D σ H):PSs X st t':=fun pins s σ H D I q=>h pins s σ H D I (w D σ H q)

section
variable{X:Cx}{H0:Hp}{B0:Addr->Prop}{fr:Bool}{RX:XR}{st:Stmt}{sts:List Stmt}{e:Expr}{pos:Pos}
def z0M(g h:SS->Option Out):SS->Option Out:=fun δ=>(g δ).bind fun o=>match o with
 |.nx δ'=>h δ'
 |o=>some o
def z1M:SS->Option Out:=fun δ=>some (.nx δ)
theorem z1g:PSs X [] (tS X.K H0 B0 fr RX z1M):=pss_nil.imp fun D σ H ⟨δ,R,o,rs,q,k⟩=>by
 cases q
 exact k σ H R rs (.refl R H)
theorem z0b{g h:SS->Option Out}(h1:PS X st (tS X.K H0 B0 fr RX g))(h2:PSs X sts (tS X.K H0 B0 fr RX h)):PSs X (st::sts) (tS X.K H0 B0 fr RX (z0M g h)):=(y5n h1 h2).imp fun D σ H ⟨δ,R,o,rs,q,k⟩=>by
 unfold z0M at q
 cases e:g δ with
 |none=>rw[e]at q;cases q
 |some o1=>
  rw[e]at q
  refine⟨δ,R,o1,rs,e,?_⟩
  cases o1 with
  |nx δ'=>
   have q':h δ'=some o:=q
   exact fun σ' H' R' rs' s'=>⟨δ',R',o,rs',q',k.back s'⟩
  |bk δ'=>cases q;exact k
  |ct δ'=>cases q;exact k
  |rt d=>cases q;exact k
  |rb d δ'=>cases q;exact k
  |ex c δ'=>cases q;exact k
theorem z0j{g:SS->Option Out}(h1:PS X st (tS X.K H0 B0 fr RX g)):PSs X [st] (tS X.K H0 B0 fr RX g):=pss_one h1

/-! ### name=e -/
abbrev PAsg(X:Cx)(st:Stmt)(i:Nat)(te:TE):Prop:=PS X st (tAsg te (z2B i))
theorem PAsg.imp{i:Nat}{t t':TE}(h:PAsg X st i t)(w:∀σ H Q,t' σ H Q->t σ H Q):PAsg X st i t':=PS.imp h fun D σ H q=>w σ H _ q
theorem z1m{i:Nat}{x:Str}{te:TE}{pos':Pos}(hN:X.N.Nodup)(hi:X.N[i]? = some x)(hx:Loc X.env.scope x)(he:PE X e te)(hs:swapsWith e (some (.Name x pos')) pos.line X.env=pure false:=by rfl)(hf:X.fn x=true∨X.env.scope.names.lookup x=some .local:=by first | exact .inl rfl | exact .inr rfl | assumption):
  PAsg X (.Assign [.Name x pos'] e pos) i te:=ps_set hN hi hx he hs hf
def asgS(i:Nat)(f:DE):SS->Option Out:=fun δ=>(f (shV δ)).map fun d=>.nx (δ.set i (some (.sh d)))
def y0i(i:Nat)(f:DE):SS->Option Out:=fun δ=>(f (z0i δ)).bind fun d=>if d.imm=true then some (.nx (δ.set i (some (.sh d))))else none
def z4f(i:Nat)(f:DE):SS->Option Out:=fun δ=>(f (z0i δ)).map fun d=>.nx (δ.set i (some (.ow d)))
theorem y2Q{i:Nat}{f:DE}(h:PAsg X st i (tD X.K f)):PS X st (tS X.K H0 B0 fr RX (asgS i f)):=PS.imp h fun D σ H ⟨δ,R,o,rs,q,k⟩=>by
 unfold asgS at q
 cases e:f (shV δ)with
 |none=>rw[e]at q;cases q
 |some d=>
  rw[e]at q
  cases q
  exact⟨_,shV δ,d,rs.inAll,rs.shr,e,fun v H' s r=>k _ H' R ((rs.mono s).setSh r) (.same s)⟩
theorem z3W{i:Nat}{f:DE}(h:PAsg X st i (tD X.K f)):PS X st (tS X.K H0 B0 fr RX (y0i i f)):=PS.imp h fun D σ H ⟨δ,R,o,rs,q,k⟩=>by
 unfold y0i at q
 cases e:f (z0i δ)with
 |none=>rw[e]at q;cases q
 |some d=>
  rw[e]at q
  have q':(if d.imm=true then some (Out.nx (δ.set i (some (.sh d))))else none)=some o:=q
  split at q'
  ·rename_i hi
   cases q'
   exact⟨noB,z0i δ,d,.no,rs.all,e,fun v H' s r=>k _ H' R ((rs.mono s).setSh (r.imm d hi)) (.same s)⟩
  ·cases q'
theorem z0V{i:Nat}{f:DE}(h:PAsg X st i (tN X.K f)):PS X st (tS X.K H0 B0 fr RX (z4f i f)):=PS.imp h fun D σ H ⟨δ,R,o,rs,q,k⟩=>by
 unfold z4f at q
 cases e:f (z0i δ)with
 |none=>rw[e]at q;cases q
 |some d=>
  rw[e]at q
  cases q
  refine⟨z0i δ,d,rs.all,e,fun v H' A s t nd fr'=>k _ H' (z5G R i A) (rs.setOw s t nd fr') ⟨fun a o h _=>s a o h,fun r a z=>?_,fun a z=>s.free z⟩⟩
  by_cases hr:r=i
  ·subst hr;rw[z0N]at z;exact .inr (fr' a z)
  ·rw[z1A hr]at z;exact .inl ⟨r,z⟩

/-! ### return -/
def z2X(f:DE):SS->Option Out:=fun δ=>(f (z0i δ)).bind fun d=>if d.imm=true then some (.rt d)else none
def y4g(f:DE):SS->Option Out:=fun δ=>(f (z0i δ)).map .rt
def retS(f:DE):SS->Option Out:=fun δ=>(f (shV δ)).map .rt
def y7y(i:Nat):SS->Option Out:=fun δ=>match δ[i]? with
 |some (some (.ow d))=>some (.rt d)
 |_=>none
theorem z0C{f:DE}(h:PD X e f):PS X (.Return (some e) pos) (tS X.K H0 B0 fr RX (z2X f)):=PS.imp (z9s h) fun D σ H ⟨δ,R,o,rs,q,k⟩=>by
 unfold z2X at q
 cases e:f (z0i δ)with
 |none=>rw[e]at q;cases q
 |some d=>
  rw[e]at q
  have q':(if d.imm=true then some (Out.rt d)else none)=some o:=q
  split at q'
  ·rename_i hi
   cases q'
   exact⟨noB,z0i δ,d,.no,rs.all,e,fun v H' s r=>k v H' ⟨rs.keep.trans s,fun _=>⟨[],r.immTree d hi,aY,(fun a z=>nomatch z)⟩,fun _=>r.imm d hi⟩ fun a z=>s.free z⟩
  ·cases q'
theorem z4D{f:DE}(h:PN X e f):PS X (.Return (some e) pos) (tS X.K H0 B0 fr RX (y4g f)):=PS.imp (z9s h) fun D σ H ⟨δ,R,o,rs,q,k⟩=>by
 unfold y4g at q
 cases e:f (z0i δ)with
 |none=>rw[e]at q;cases q
 |some d=>
  rw[e]at q
  cases q
  exact⟨z0i δ,d,rs.all,e,fun v H' A s t nd fr'=>k v H' ⟨rs.keep.trans s,fun _=>⟨A,t,nd,fun a z=>rs.keep.free (fr' a z)⟩,fun _=>t.rep d fun a z=>rs.inB.fresh (rs.keep.free (fr' a z))⟩ fun a z=>s.free z⟩
theorem z8g{i:Nat}(h:PE X e (z5m i)):PS X (.Return (some e) pos) (tS X.K H0 B0 fr RX (y7y i)):=PS.imp (z9s h) fun D σ H ⟨δ,R,o,rs,q,k⟩=>by
 unfold y7y at q
 split at q
 ·rename_i d e
  cases q
  obtain⟨v,e1,t,nd⟩:=rs.ow i d e
  exact⟨v,e1,k v H ⟨rs.keep,fun _=>⟨R i,t,nd,fun a z=>rs.new i a z⟩,fun _=>t.rep d fun a z=>rs.inB.fresh (rs.new i a z)⟩ fun a z=>z⟩
 ·cases q

/-! ### if,break,continue,pass -/
def ifO(c:DS->Option Bool)(g h:SS->Option Out):SS->Option Out:=fun δ=>(c (z0i δ)).bind fun b=>if b=true then g δ else h δ
theorem z5t{c:Expr}{a b:List Stmt}{f:DS->Option Bool}{g h:SS->Option Out}(hc:PTD X c f)(ha:PSs X a (tS X.K H0 B0 fr RX g))(hb:PSs X b (tS X.K H0 B0 fr RX h)):PS X (.If c a b pos) (tS X.K H0 B0 fr RX (ifO f g h)):=PS.imp (ps_if hc ha hb) fun D σ H ⟨δ,R,o,rs,q,k⟩=>by
 unfold ifO at q
 cases e:f (z0i δ)with
 |none=>rw[e]at q;cases q
 |some b=>
  rw[e]at q
  have q':(if b=true then g δ else h δ)=some o:=q
  refine⟨noB,z0i δ,b,.no,rs.all,e,fun H' s=>?_⟩
  cases b with
  |true=>
   rw[if_pos rfl]at q'
   refine iteT ?_
   exact⟨δ,R,o,rs.mono s,q',k.back (.same s)⟩
  |false=>
   rw[if_neg aj]at q'
   refine iteF ?_
   exact⟨δ,R,o,rs.mono s,q',k.back (.same s)⟩
def bkO:SS->Option Out:=fun δ=>some (.bk δ)
def ctO:SS->Option Out:=fun δ=>some (.ct δ)
/-- ahead of a statement an owned slot may become shared -/
def frzO(i:Nat)(g:SS->Option Out):SS->Option Out:=fun δ=>g (y4A i δ)
theorem s_frz(i:Nat){g:SS->Option Out}(h:PS X st (tS X.K H0 B0 fr RX g)):PS X st (tS X.K H0 B0 fr RX (frzO i g)):=PS.imp h fun D σ H ⟨δ,R,o,rs,q,k⟩=>by
 obtain⟨R',rs',hs⟩:=rs.frz i
 exact⟨y4A i δ,R',o,rs',q,k.back ⟨fun a o h _=>h,fun r a z=>.inl ⟨r,hs r a z⟩,fun a z=>z⟩⟩

/-! ### for x in .. : over what is shared -/
def z3n(i:Nat)(b:SS->Option Out):List D->SS->Option Out
 |[],δ=>some (.nx δ)
 |x::r,δ=>(b (δ.set i (some (.sh x)))).bind fun o=>match o with
  |.nx δ'=>z3n i b r δ'
  |.ct δ'=>z3n i b r δ'
  |.bk δ'=>some (.nx δ')
  |.rt d=>some (.rt d)
  |.rb d δ'=>some (.rb d δ')
  |.ex c δ'=>some (.ex c δ')
def z7z(i:Nat)(f:DS->Option (List D))(b:SS->Option Out):SS->Option Out:=fun δ=>(f (shV δ)).bind fun ds=>z3n i b ds δ
theorem Stp.keepB{K:aa}{R R':Nat->List Addr}{H H':Hp}{B:Addr->Prop}(s:Stp R H R' H')(hR:∀r a,a∈R r->B a)(hm:∀r a,a∈R r->∃o,H a=some o∧Mut (some o)):Keep K B H H':=by
 have kp:∀a o,H a=some o->¬ Mut (some o)->H' a=some o:=fun a o e n=>s.keep a o e fun r z=>by
  obtain⟨o',e',m⟩:=hm r a z
  rw[e]at e';cases e'
  exact n m
 refine⟨fun a xs n h=>s.keep a _ h fun r z=>n (hR r a z),fun a xs h=>?_,fun a xs h=>?_,fun a kvs n h=>s.keep a _ h fun r z=>n (hR r a z),fun a φ n h=>s.keep a _ h fun r z=>n (hR r a z),fun a _ _ _ n h=>s.keep a _ h fun r z=>n (hR r a z)⟩
 ·rcases h with (h | ⟨o,h⟩) | h
  ·exact .inl (.inl (kp a _ h fun z=>z))
  ·exact .inl (.inr ⟨o,kp a _ h fun z=>z⟩)
  ·exact .inr h
 ·rcases h with⟨o,h⟩ | h
  ·exact .inl ⟨o,kp a _ h fun z=>z⟩
  ·exact .inr h
theorem z3Z{i:Nat}{x:Str}{px:Pos}{iter:Expr}{body:List Stmt}{f:DS->Option (List D)}{g:SS->Option Out}(hp:PassesOwn (model X.prog X.w) X.A X.env X.xe)(hc:X.calm=true)(hi:PID X (.Name x px) iter f)(hg:PG X (.Name x px) (z2B i))(hb:PSs X body (tS X.K H0 B0 fr RX g))
  (hs:∀x,foldedSetIterable iter X.env x=pure x:=by intro _;rfl):PS X (.For (.Name x px) iter body [] pos) (tS X.K H0 B0 fr RX (z7z i f g)):=PS.imp (y1z hp hc hi hg hb hs) fun D σ H ⟨δ,R,o,rs,q,k⟩=>by
 unfold z7z at q
 cases e:f (shV δ)with
 |none=>rw[e]at q;cases q
 |some ds=>
 rw[e]at q
 have q:z3n i g ds δ=some o:=q
 refine⟨_,shV δ,ds,rs.inAll,rs.shr,e,fun J H1 s1 itw=>?_⟩
 have rs1:=rs.mono s1
 have it:=itw (fun a=>H1 a=none) fun a z=>z
 refine⟨fun n m σ' H'=>m=ds.length - n∧n≤ds.length∧∃δ' R',RS X.K H0 B0 H' σ' δ' R'∧Stp R H1 R' H'∧z3n i g (ds.drop n) δ'=some o,⟨ds.length,by simp,bn _,δ,R,rs1,.refl R H1,q⟩,?_⟩
 rintro n m σ' H' ⟨rfl,hn,δ',R',rs',s',q'⟩
 have kp:Keep X.K (fun a=>(B0 a∨∃r,a∈R r)∨H1 a=none) H1 H':=s'.keepB (fun r a z=>.inl (.inr ⟨r,z⟩)) rs1.held
 by_cases hlt:n<ds.length
 ·have hx:ds.drop n=ds[n]::ds.drop (n+1):=ba hlt
  rw[hx]at q'
  unfold z3n at q'
  cases eb:g (δ'.set i (some (.sh ds[n])))with
  |none=>rw[eb]at q';cases q'
  |some ob=>
   rw[eb]at q'
   refine .inr ⟨it.go n H' kp hlt,fun σ2 H2=>n+1≤ds.length∧∃δ2 R2,RS X.K H0 B0 H2 σ2 δ2 R2∧Stp R H1 R2 H2∧z3n i g (ds.drop (n+1)) δ2=some o,fun σ2 H2 z=>⟨ds.length - (n+1),by omega,rfl,z⟩,fun xv H2 hy=>?_⟩
   obtain⟨s2,d,hd,rd⟩:=it.yld n H' xv H2 kp hy
   have hdi:d=ds[n]:=by
    have:=hd hlt
    rw[ae hlt]at this
    exact(Option.some.inj this).symm
   subst hdi
   -- the item is shared
   have rd':Rep X.K H2 (fun a=>B0 a∨∃r,a∈R' r) ds[n] xv:=rd.anti fun a z=>by
    rcases z with z | ⟨r,z⟩
    ·exact .inl (.inl z)
    ·rcases s'.from' r a z with z | z
     ·exact .inl (.inr z)
     ·exact .inr z
   have rs2:=(rs'.mono s2).setSh (i:=i) rd'
   have st2:Stp R H1 R' H2:=s'.trans (.same s2)
   refine⟨_,R',ob,rs2,eb,?_⟩
   cases ob with
   |nx δ2=>
    have q2:z3n i g (ds.drop (n+1)) δ2=some o:=q'
    exact fun σ3 H3 R3 rs3 s3=>⟨hlt,δ2,R3,rs3,st2.trans s3,q2⟩
   |ct δ2=>
    have q2:z3n i g (ds.drop (n+1)) δ2=some o:=q'
    exact fun σ3 H3 R3 rs3 s3=>⟨hlt,δ2,R3,rs3,st2.trans s3,q2⟩
   |bk δ2=>
    cases q'
    exact fun σ3 H3 R3 rs3 s3=>k σ3 H3 R3 rs3 ((Stp.same s1).trans (st2.trans s3))
   |rt d=>
    cases q'
    exact k.back ((Stp.same s1).trans st2)
   |rb d δ2=>
    cases q'
    exact k.back ((Stp.same s1).trans st2)
   |ex c δ2=>
    cases q'
    exact k.back ((Stp.same s1).trans st2)
 ·have en:n=ds.length:=by omega
  subst en
  rw[bU]at q'
  cases q'
  exact .inl ⟨it.stop _ H' kp (ak _),k σ' H' R' rs' ((Stp.same s1).trans s')⟩
end

/-! ### a def's body -/
def z3f(np nl:Nat)(g:SS->Option Out):List D->Option D:=fun ds=>if ds.length=np then(match g (ds.map (fun d=>some (.sh d))++ad nl none)with
 |some (.rt d)=>some d
 |some (.nx _)=>some .non
 |_=>none)else none
theorem z9a{np nl:Nat}{g:SS->Option Out}{ds:List D}{d:D}(h:z3f np nl g ds=some d):ds.length=np:=by
 unfold z3f at h
 split at h
 ·assumption
 ·cases h
theorem z8f{K:aa}{H:Hp}{B:Addr->Prop}{ds:List D}{vs:List V}{N:List Str}{nl:Nat}(hB:InB B H)(r:Reps K H B ds vs)(hN:N.length=ds.length+nl):
  RS K H B H (z4b N vs) (ds.map (fun d=>some (.sh d))++ad nl none) (fun _=>[]):=by
 have hl:=r.length
 have get:∀{i:Nat} {x:SD},(ds.map (fun d=>some (SD.sh d))++ad nl none)[i]? = some (some x)->∃d,ds[i]? = some d∧x = .sh d:=fun {i x} e=>by
  by_cases hi:i<ds.length
  ·rw[aN (by simpa using hi),aL,ae hi]at e
   cases e
   exact⟨ds[i],ae hi,rfl⟩
  ·rw[bp (by simpa using hi),bw]at e
   split at e <;> cases e
 refine⟨.refl H,hB,?_,(fun _ _ z=>nomatch z),(fun _ _ z=>nomatch z),(fun _ _ _ z=>nomatch z),fun i d e=>?_,fun i r d e=>?_,fun i d e=>?_⟩
 ·unfold z4b
  simp
  omega
 ·obtain⟨d',e1,e2⟩:=get e
  cases e2
  obtain⟨v,e3,rv⟩:=r.get e1
  refine⟨v,?_,rv.anti fun a z=>z.elim id (fun⟨_,z⟩=>nomatch z)⟩
  unfold z4b
  have hi:i<vs.length:=(aV.mp e3).1
  rw[aN (by simpa using hi),aL,e3]
  rfl
 ·obtain⟨d',_,e2⟩:=get e
  cases e2
 ·obtain⟨d',_,e2⟩:=get e
  cases e2
section
variable{P:dN}{w:dO}{K:aa}{mg:Str->Option Value}{base:Heap}
/-- a def whose trees are all new -/
theorem fnN{x qual:Str}{st:Stmt}{f:Addr}{fd:dP}{N ps:List Str}{k np nl:Nat}{g:SS->Option Out}(F:Fun K x qual st f fd)(S:FnScope N ps (z0f st))(hnp:ps.length=np)(hN:N.length=np+nl)
  (hbody:∀(cdv:Value) (A:Around) (outer:List Env) (s:dw) (H:Hp) (E:XK),Room k (A.deeper (envOfC qual (z0f st) s.heap.objs.size f cdv)) →
   PSs (z8G CX0 P w K mg base N qual (z0f st) f cdv A outer s H E).nox (z1d st) (tS K H noB true noX g)):FnOk P w K mg base CX0 (k+1) f fd ps (spN K (z3f np nl g)):=by
 refine F.ok S (fun vs H Q E h=>?_) fun cdv A outer s H vs Q E hr h=>?_
 ·obtain⟨ds,d,r,e,_⟩:=h
  rw[←r.length,z9a e,hnp]
 ·obtain⟨ds,d,r,e,kk⟩:=h
  refine⟨_,hbody cdv A outer s H E hr,?_⟩
  have hl:=z9a e
  unfold z3f at e
  rw[if_pos hl]at e
  have rs:=z8f (nl:=nl) .no r (N:=N) (by omega)
  split at e
  ·rename_i d' eg
   cases e
   exact⟨_,_,_,rs,eg,fun v H' z _=>by
    obtain⟨A',t,nd,fr⟩:=z.2.1 rfl
    exact kk v H' A' z.1 t nd fr⟩
  ·rename_i δ' eg
   cases e
   exact⟨_,_,_,rs,eg,fun σ' H' R' rs' _=>kk .non H' [] rs'.keep ⟨rfl,rfl⟩ aY (fun a z=>nomatch z)⟩
  ·cases e
theorem z5h{x qual:Str}{st:Stmt}{f:Addr}{fd:dP}{N ps:List Str}{k np nl:Nat}{g:SS->Option Out}(F:Fun K x qual st f fd)(hm:mg x=some (.ref f))(hb:Binds K fd ps [])(S:FnScope N ps (z0f st))(hnp:ps.length=np)(hN:N.length=np+nl)
  (hbody:∀(cdv:Value) (A:Around) (outer:List Env) (s:dw) (H:Hp) (E:XK),Room k (A.deeper (envOfC qual (z0f st) s.heap.objs.size f cdv)) →
   PSs (z8G CX0 P w K mg base N qual (z0f st) f cdv A outer s H E).nox (z1d st) (tS K H noB true noX g)):DefOk P w K mg base (k+1) x (spN K (z3f np nl g)):=
 ⟨f,fd,ps,hm,F.kp,hb,fnN F S hnp hN hbody⟩
end
end L2

/-! ### E6: Python's own functions and operators by trees -/
namespace L2
open PySem PySem.Spec PyProof.Rows PySem.SeqAt

mutual
def toP:D->PyData
 |.non=>.none
 |.bl b=>.bool b
 |.int i=>.int i
 |.str x=>.str x
 |.lst ds=>.list (z5l ds)
 |.tup ds=>.tuple (z5l ds)
 |.scr ns=>.list (ns.map .int)
 |.dct _ _=>.dict []
 |.exc _=>.dict []
 |.obj _ _ _ _=>.dict []
 |.cel _ _=>.dict []
def z5l:List D->List PyData
 |[]=>[]
 |d::ds=>toP d::z5l ds
end
theorem z5r{h:Heap}:∀(ns:List Int) {us:List Value},Vals (ns.map V.int) us->∃as,ReadsAll h us (ns.map .int) as
 |[],_,.nil=>⟨_,.nil⟩
 |n::ns,_,.cons r t=>by
  obtain⟨tk,rfl⟩:=r
  obtain⟨as,ra⟩:=z5r (h:=h) ns t
  exact⟨_,.cons (.int n tk) ra⟩
section
variable{X:Cx}{pins:List (Addr×Obj)}{σ:St}{H:Hp}{s:dw}{B:Addr->Prop}
mutual
theorem z1j(I:Inv X pins σ H s):∀(d:D) {v:V} {u:Value},(toP d).canLay0=true->Rep X.K H B d v->RelV v u->∃as,Reads s.heap u (toP d) as
 |.non,_,_,_,h,r=>by cases h;cases r;exact⟨_,.none⟩
 |.bl b,_,_,_,h,r=>by cases h;cases r;exact⟨_,.bool b⟩
 |.int i,_,_,_,h,r=>by cases h;obtain⟨t,rfl⟩:=r;exact⟨_,.int i t⟩
 |.str x,_,_,_,h,r=>by cases h;obtain⟨t,rfl⟩:=r;exact⟨_,.str x t⟩
 |.lst ds,_,_,hc,h,r=>by
  unfold Rep at h
  obtain⟨a,xs,rfl,_,hq,rs⟩:=h
  cases r
  obtain⟨its,rv,⟨o,n,e,c,_,dt⟩,_⟩:=I.list (SqL.of hq)
  have hc':PyData.canLayAll0 (z5l ds)=true:=by unfold toP PyData.canLay0 at hc;exact hc
  obtain⟨as,ra⟩:=z3M I ds hc' rs rv
  unfold toP
  exact⟨_,.list e c dt (by simpa using ra)⟩
 |.tup ds,_,_,hc,h,r=>by
  unfold Rep at h
  obtain⟨a,xs,rfl,hq,rs⟩:=h
  cases r
  obtain⟨its,rv,⟨o,e,c,n,dt⟩,_⟩:=I.tuple hq
  have hc':PyData.canLayAll0 (z5l ds)=true:=by unfold toP PyData.canLay0 at hc;exact hc
  obtain⟨as,ra⟩:=z3M I ds hc' rs rv
  unfold toP
  exact⟨_,.tuple e c dt (by simpa using ra)⟩
 |.scr ns,_,_,hc,h,r=>by
  unfold Rep at h
  obtain⟨a,rfl,hq⟩:=h
  cases r
  obtain⟨its,rv,⟨o,n,e,c,_,dt⟩,_⟩:=I.list hq.sq
  unfold toP
  obtain⟨as,ra⟩:=z5r (h:=s.heap) ns rv
  exact⟨_,.list e c dt (by simpa using ra)⟩
 |.dct _ _,_,_,hc,_,_=>by unfold toP PyData.canLay0 at hc;cases hc
 |.exc _,_,_,hc,_,_=>by unfold toP PyData.canLay0 at hc;cases hc
 |.obj _ _ _ _,_,_,hc,_,_=>by unfold toP PyData.canLay0 at hc;cases hc
 |.cel _ _,_,_,hc,_,_=>by unfold toP PyData.canLay0 at hc;cases hc
theorem z3M(I:Inv X pins σ H s):∀(ds:List D) {xs:List V} {us:List Value},PyData.canLayAll0 (z5l ds)=true->Reps X.K H B ds xs->Vals xs us->∃as,ReadsAll s.heap us (z5l ds) as
 |[],_,_,_,h,r=>by
  unfold Reps at h
  subst h
  cases r
  exact⟨_,.nil⟩
 |d::ds,_,_,hc,h,r=>by
  unfold Reps at h
  obtain⟨x,rr,rfl,h1,h2⟩:=h
  unfold z5l PyData.canLayAll0 at hc
  rw[aF]at hc
  cases r with
  |cons r1 r2=>
   obtain⟨as,ra⟩:=z1j I d hc.1 h1 r1
   obtain⟨bs,rb⟩:=z3M I ds hc.2 h2 r2
   unfold z5l
   exact⟨_,.cons ra rb⟩
end
end
/-- what may be compared -/
def okP(d:D):Bool:=(toP d).canLay0&&decide ((toP d).depth≤60)
def eqD(x y:D):Option D:=if(okP x&&okP y)=true then some (.bl (PyData.eqv (toP x) (toP y)))else none
def neD(x y:D):Option D:=if(okP x&&okP y)=true then some (.bl (!PyData.eqv (toP x) (toP y)))else none
def memD(x:D):D->Option Bool
 |.lst ds=>if(okP x&&okP (.lst ds))=true then some (ds.any fun y=>PyData.eqv (toP y) (toP x))else none
 |.tup ds=>if(okP x&&okP (.tup ds))=true then some (ds.any fun y=>PyData.eqv (toP y) (toP x))else none
 |_=>none
def ninD(x y:D):Option D:=(memD x y).map fun b=>.bl (!b)
def rEqD(K:aa):R2:=fun x y H Q=>∃B dx dy,Rep K H B dx x∧Rep K H B dy y∧okP dx=true∧okP dy=true∧Q (.bl (PyData.eqv (toP dx) (toP dy))) H
def rNeD(K:aa):R2:=fun x y H Q=>∃B dx dy,Rep K H B dx x∧Rep K H B dy y∧okP dx=true∧okP dy=true∧Q (.bl (!PyData.eqv (toP dx) (toP dy))) H
theorem z0B{d:D}(h:okP d=true):(toP d).canLay0=true∧(toP d).depth≤60:=by
 unfold okP at h
 rw[aF,decide_eq_true_eq]at h
 exact h
section
variable{X:Cx}
theorem y5T(hu:X.A.units+64<cLine):OpR X (dX .Eq) (rEqD X.K):=by
 intro pins s σ H x y v u Q I rx ry h
 obtain⟨B,dx,dy,r1,r2,o1,o2,q⟩:=h
 obtain⟨as,ra⟩:=z1j I dx (z0B o1).1 r1 rx
 obtain⟨bs,rb⟩:=z1j I dy (z0B o2).1 r2 ry
 exact compareEq_reads ra rb (z0B o1).1 (z0B o2).1 (by have:=(z0B o1).2;omega) ⟨.bl _,H,I,rfl,q⟩
theorem op_neD(hu:X.A.units+64<cLine):OpR X (dX .NotEq) (rNeD X.K):=by
 intro pins s σ H x y v u Q I rx ry h
 obtain⟨B,dx,dy,r1,r2,o1,o2,q⟩:=h
 obtain⟨as,ra⟩:=z1j I dx (z0B o1).1 r1 rx
 obtain⟨bs,rb⟩:=z1j I dy (z0B o2).1 r2 ry
 exact compareNe_reads ra rb (z0B o1).1 (z0B o2).1 (by have:=(z0B o1).2;omega) ⟨.bl _,H,I,rfl,q⟩
theorem o2_eq{K:aa}:Op2 K (rEqD K) eqD:=by
 intro H B dx dy d x y Q hB hx hy q k
 unfold eqD at q
 split at q
 ·rename_i h
  rw[aF]at h
  cases q
  exact⟨B,dx,dy,hx,hy,h.1,h.2,k _ H (.refl H) rfl⟩
 ·cases q
theorem o2_ne{K:aa}:Op2 K (rNeD K) neD:=by
 intro H B dx dy d x y Q hB hx hy q k
 unfold neD at q
 split at q
 ·rename_i h
  rw[aF]at h
  cases q
  exact⟨B,dx,dy,hx,hy,h.1,h.2,k _ H (.refl H) rfl⟩
 ·cases q
theorem z6c(p:PyData->Bool):∀ds:List D,(z5l ds).any p=ds.any fun y=>p (toP y)
 |[]=>rfl
 |d::ds=>by unfold z5l;rw[cg,cg,z6c p ds]
def rInD(K:aa)(neg:Bool):R2:=fun x y H Q=>∃B dx dy b,Rep K H B dx x∧Rep K H B dy y∧memD dx dy=some b∧Q (.bl (if neg then !b else b)) H
theorem op_ninD(hu:X.A.units+64<cLine):OpR X (dX .NotIn) (rInD X.K true):=by
 intro pins s σ H x y v u Q I rx ry h
 obtain⟨B,dx,dy,b,r1,r2,o,q⟩:=h
 unfold memD at o
 split at o
 ·split at o
  ·rename_i ds h
   rw[aF]at h
   cases o
   obtain⟨as,ra⟩:=z1j I dx (z0B h.1).1 r1 rx
   obtain⟨bs,rb⟩:=z1j I _ (z0B h.2).1 r2 ry
   have hc:=(z0B h.2).1
   unfold toP at rb hc
   unfold PyData.canLay0 at hc
   refine notIn_list_reads rb ra hc (z0B h.1).1 (by have:=(z0B h.1).2;omega) ?_
   rw[z6c]
   exact⟨.bl _,H,I,rfl,q⟩
  ·cases o
 ·split at o
  ·rename_i ds h
   rw[aF]at h
   cases o
   obtain⟨as,ra⟩:=z1j I dx (z0B h.1).1 r1 rx
   obtain⟨bs,rb⟩:=z1j I _ (z0B h.2).1 r2 ry
   have hc:=(z0B h.2).1
   unfold toP at rb hc
   unfold PyData.canLay0 at hc
   refine notIn_tuple_reads rb ra hc (z0B h.1).1 (by have:=(z0B h.1).2;omega) ?_
   rw[z6c]
   exact⟨.bl _,H,I,rfl,q⟩
  ·cases o
 ·cases o
theorem o2_nin{K:aa}:Op2 K (rInD K true) ninD:=by
 intro H B dx dy d x y Q hB hx hy q k
 unfold ninD at q
 cases e:memD dx dy with
 |none=>rw[e]at q;cases q
 |some b=>
  rw[e]at q
  cases q
  exact⟨B,dx,dy,b,hx,hy,e,k _ H (.refl H) rfl⟩

/-! ### built-in functions -/
def OpA(K:aa)(r:List V->Hp->VK->Prop)(F:List D->Option D):Prop:=∀(H:Hp) (B:Addr->Prop) (ds:List D) (d:D) (vs:List V) (Q:VK),InB B H->Reps K H B ds vs->F ds=some d->(∀v H',Same H H'->Rep K H' B d v->Q v H')->r vs H Q
def OpL(K:aa)(r:List V->Hp->VK->Prop)(F:List D->Option (List D)):Prop:=∀(H:Hp) (B:Addr->Prop) (ds es:List D) (vs:List V) (Q:VK),InB B H->Reps K H B ds vs->F ds=some es →
 (∀a xs H',Same H H'->H a=none->H' a=some (.lst xs)->Reps K H' B es xs->Q (.ref a) H')->r vs H Q
def z1i(F:List D->Option (List D))(fl:List DE):DS->Option (List D):=fun δ=>(z0k fl δ).bind F
variable{x:Str}{bid T:String}{r:List V->Hp->VK->Prop}{e:Expr}{es:List Expr}{p pos:Pos}{fl:List DE}
theorem callA{F:List D->Option D}(ho:OpA X.K r F)(σ:St)(H:Hp)(Q:VK)(h:tD X.K (z0p F fl) σ H Q):tCB r (tDs X.K (z0k fl)) σ H Q:=by
 obtain⟨B,δ,d,hB,S,q,k⟩:=h
 obtain⟨ds,e1,e2⟩:=z5p q
 exact⟨B,δ,ds,hB,S,e1,fun vs H1 s1 r1=>ho H1 B ds d vs Q (hB.mono s1) r1 e2 fun v H' s' rv=>k v H' (s1.trans s') rv⟩
theorem callL{F:List D->Option (List D)}(ho:OpL X.K r F)(σ:St)(H:Hp)(Q:VK)(h:tF X.K (z1i F fl) σ H Q):tCB r (tDs X.K (z0k fl)) σ H Q:=by
 obtain⟨B,δ,d,hB,S,q,k⟩:=h
 unfold z1i at q
 cases e1:z0k fl δ with
 |none=>rw[e1]at q;cases q
 |some ds=>
  rw[e1]at q
  exact⟨B,δ,ds,hB,S,e1,fun vs H1 s1 r1=>ho H1 B ds d vs Q (hB.mono s1) r1 q fun a xs H' s' hn ha rv=>k a xs H' (s1.trans s') (s1.free hn) ha rv⟩
theorem z4g{F:List D->Option D}(hc:CallR X (.builtin bid) r)(hD:OpA X.K r F)(hg:Gl X x)(hm:X.mg x=none)(hv:dZ x=some (.builtin bid))(ha:PAD X (e::es) fl)(hn:x ≠ "__name__" := by decide)(hdb:(x==("__debug__" : Str))=false:=by decide)
  (he:starEach (e::es) X.env=(false,eval e X.env)::starEach es X.env:=by rfl) (hpl:(dY pos (starEach es X.env)).any (·.1)=false:=by rfl):PD X (.Call (.Name x p) (e::es) [] pos) (z0p F fl):=
 (z6e hc hg hm hv ha hn hdb he hpl).imp (callA hD)
theorem y5m{F:List D->Option (List D)}(hc:CallR X (.type T) r)(hD:OpL X.K r F)(hg:Gl X x)(hm:X.mg x=none)(hv:dZ x=some (.type T))(ha:PAD X (e::es) fl)(hn:x ≠ "__name__" := by decide)(hdb:(x==("__debug__" : Str))=false:=by decide)
  (he:starEach (e::es) X.env=(false,eval e X.env)::starEach es X.env:=by rfl) (hpl:(dY pos (starEach es X.env)).any (·.1)=false:=by rfl):PF X (.Call (.Name x p) (e::es) [] pos) (z1i F fl):=
 (y2M hc hg hm hv ha hn hdb he hpl).imp (callL hD)
theorem z4c{K:aa}{H:Hp}{B:Addr->Prop}{d:D}{vs:List V}(h:Reps K H B [d] vs):∃v,vs=[v]∧Rep K H B d v:=by
 unfold Reps at h
 obtain⟨x,r,rfl,h1,h2⟩:=h
 unfold Reps at h2
 subst h2
 exact⟨x,rfl,h1⟩
theorem reps2{K:aa}{H:Hp}{B:Addr->Prop}{d e:D}{vs:List V}(h:Reps K H B [d,e] vs):∃v u,vs=[v,u]∧Rep K H B d v∧Rep K H B e u:=by
 unfold Reps at h
 obtain⟨x,r,rfl,h1,h2⟩:=h
 obtain⟨u,rfl,h3⟩:=z4c h2
 exact⟨x,u,rfl,h1,h3⟩
/-- len -/
def z2j:List D->Option D
 |[.lst ds]=>some (.int ds.length)
 |[.tup ds]=>some (.int ds.length)
 |[.scr ns]=>some (.int ns.length)
 |_=>none
theorem oa_len{K:aa}:OpA K (fun xs H Q=>∃x n,xs=[x]∧LenV K x H n∧Q (.int n) H) z2j:=by
 intro H B ds d vs Q hB hr q k
 unfold z2j at q
 split at q
 ·cases q
  obtain⟨v,rfl,r⟩:=z4c hr
  unfold Rep at r
  obtain⟨a,xs,rfl,_,h,rs⟩:=r
  refine⟨.ref a,xs.length,rfl,.inl ⟨xs,SqL.of h,rfl⟩,k _ H (.refl H) ?_⟩
  show V.int _=V.int _
  rw[rs.length]
 ·cases q
  obtain⟨v,rfl,r⟩:=z4c hr
  unfold Rep at r
  obtain⟨a,xs,rfl,h,rs⟩:=r
  refine⟨.ref a,xs.length,rfl,.inr ⟨xs,h,rfl⟩,k _ H (.refl H) ?_⟩
  show V.int _=V.int _
  rw[rs.length]
 ·cases q
  obtain⟨v,rfl,r⟩:=z4c hr
  unfold Rep at r
  obtain⟨a,rfl,h⟩:=r
  exact⟨.ref a,_,rfl,.inl ⟨_,h.sq,(ah ..).symm⟩,k _ H (.refl H) rfl⟩
 ·cases q
theorem z0K{f:DE}(hg:Gl X "len")(hm:X.mg "len" = none)(h:PD X e f)(he:starEach [e] X.env=[(false,eval e X.env)]:=by rfl):PD X (.Call (.Name "len" p) [e] [] pos) (z0p z2j [f]):=
 z4g y5G oa_len hg hm PySem.boot_len (z0a h z0d he) (by decide) (by decide) he rfl
/-- all,any,sum of a list -/
def z2Z:List D->Option (List Bool)
 |[]=>some []
 |.bl b::r=>(z2Z r).map (b :: ·)
 |_=>none
def ints':List D->Option (List Int)
 |[]=>some []
 |.int i::r=>(ints' r).map (i :: ·)
 |_=>none
theorem z3C{K:aa}{H:Hp}{B:Addr->Prop}:∀{ds:List D} {bs:List Bool} {xs:List V},z2Z ds=some bs->Reps K H B ds xs->xs=bs.map V.bl
 |[],_,_,e,h=>by cases e;unfold Reps at h;exact h
 |.bl b::r,bs,xs,e,h=>by
  unfold z2Z at e
  cases q:z2Z r with
  |none=>rw[q]at e;cases e
  |some cs=>
   rw[q]at e
   cases e
   unfold Reps at h
   obtain⟨x,r',rfl,h1,h2⟩:=h
   rw[z3C q h2,show x=V.bl b from h1]
   rfl
 |.non::_,_,_,e,_=>nomatch e
 |.int _::_,_,_,e,_=>nomatch e
 |.str _::_,_,_,e,_=>nomatch e
 |.lst _::_,_,_,e,_=>nomatch e
 |.tup _::_,_,_,e,_=>nomatch e
 |.dct _ _::_,_,_,e,_=>nomatch e
 |.exc _::_,_,_,e,_=>nomatch e
 |.obj _ _ _ _::_,_,_,e,_=>nomatch e
 |.cel _ _::_,_,_,e,_=>nomatch e
 |.scr _::_,_,_,e,_=>nomatch e
theorem z5Z:∀{bs:List Bool} {us:List Value},Vals (bs.map V.bl) us->PyProof.Rows.LSm.BoolsAre us bs
 |[],_,.nil=>.nil
 |b::bs,_,.cons r t=>by
  cases r
  exact .cons b (z5Z t)
theorem y3h(hc:X.calm=true):CallR X (.builtin "all") (fun xs H Q=>∃(p:Addr) (bs:List Bool),xs=[.ref p]∧SqL X.K H p (bs.map V.bl)∧Q (.bl (bs.all (fun b=>b))) H):=by
 intro pins s σ H xs us Q I r h
 obtain⟨p,bs,rfl,hq,q⟩:=h
 obtain⟨u,rfl,ru⟩:=y4n r
 cases ru
 obtain⟨its,rv,pl,hz⟩:=I.list hq
 have hl:=pl.isList
 have hb:=z5Z rv
 have hlt:p<s.heap.objs.size:=by obtain⟨_,e,_⟩:=hl;exact Heap.lt_size e
 refine call_all_walk (wpAny_pyIter_list hl ?_)
 refine⟨s.heap.objs.size,[s.heap.objs.size,p],[s.heap.objs.size],its.toArray.size,_,_,fun i=>(bs[i]?).getD true,rfl,Walks.list (A:=X.A.in1) (I.ok.hd hc) _ p (ax hlt) its.toArray,
  ⟨⟨_,Heap.get?_push_size _ rfl,rfl,rfl⟩,hl.push _⟩,fun i v s' Q' E' hP hQ=>?_,fun h' tk hk=>?_⟩
 ·obtain⟨b,e,rfl⟩:=hb.get i v (by simpa using hP)
  simp only[e,bS]at hQ
  exact wpAny_truthy_bool hQ
 ·have e:((ar its.toArray.size).all fun i=>(bs[i]?).getD true)=bs.all (fun b=>b):=by
   rw[ai,hb.length];exact LSm.range_all bs
  rw[e]
  exact⟨.bl _,H,I.kept (LSm.kept_iter hk),rfl,q⟩
theorem y1s(hc:X.calm=true):CallR X (.builtin "any") (fun xs H Q=>∃(p:Addr) (bs:List Bool),xs=[.ref p]∧SqL X.K H p (bs.map V.bl)∧Q (.bl (bs.any (fun b=>b))) H):=by
 intro pins s σ H xs us Q I r h
 obtain⟨p,bs,rfl,hq,q⟩:=h
 obtain⟨u,rfl,ru⟩:=y4n r
 cases ru
 obtain⟨its,rv,pl,hz⟩:=I.list hq
 have hl:=pl.isList
 have hb:=z5Z rv
 have hlt:p<s.heap.objs.size:=by obtain⟨_,e,_⟩:=hl;exact Heap.lt_size e
 refine call_any_walk (wpAny_pyIter_list hl ?_)
 refine⟨s.heap.objs.size,[s.heap.objs.size,p],[s.heap.objs.size],its.toArray.size,_,_,fun i=>(bs[i]?).getD false,rfl,Walks.list (A:=X.A.in1) (I.ok.hd hc) _ p (ax hlt) its.toArray,
  ⟨⟨_,Heap.get?_push_size _ rfl,rfl,rfl⟩,hl.push _⟩,fun i v s' Q' E' hP hQ=>?_,fun h' tk hk=>?_⟩
 ·obtain⟨b,e,rfl⟩:=hb.get i v (by simpa using hP)
  simp only[e,bS]at hQ
  exact wpAny_truthy_bool hQ
 ·have e:((ar its.toArray.size).any fun i=>(bs[i]?).getD false)=bs.any (fun b=>b):=by
   rw[ai,hb.length];exact LSm.range_any bs
  rw[e]
  exact⟨.bl _,H,I.kept (LSm.kept_iter hk),rfl,q⟩
def allF:List D->Option D
 |[.lst ds]=>(z2Z ds).map fun bs=>.bl (bs.all (fun b=>b))
 |_=>none
def anyF:List D->Option D
 |[.lst ds]=>(z2Z ds).map fun bs=>.bl (bs.any (fun b=>b))
 |_=>none
theorem oa_all{K:aa}:OpA K (fun xs H Q=>∃(p:Addr) (bs:List Bool),xs=[.ref p]∧SqL K H p (bs.map V.bl)∧Q (.bl (bs.all (fun b=>b))) H) allF:=by
 intro H B ds d vs Q hB hr q k
 unfold allF at q
 split at q
 ·rename_i es
  cases e:z2Z es with
  |none=>rw[e]at q;cases q
  |some bs=>
   rw[e]at q
   cases q
   obtain⟨v,rfl,r⟩:=z4c hr
   unfold Rep at r
   obtain⟨a,xs,rfl,_,h,rs⟩:=r
   rw[z3C e rs]at h
   exact⟨a,bs,rfl,SqL.of h,k _ H (.refl H) rfl⟩
 ·cases q
theorem oa_any{K:aa}:OpA K (fun xs H Q=>∃(p:Addr) (bs:List Bool),xs=[.ref p]∧SqL K H p (bs.map V.bl)∧Q (.bl (bs.any (fun b=>b))) H) anyF:=by
 intro H B ds d vs Q hB hr q k
 unfold anyF at q
 split at q
 ·rename_i es
  cases e:z2Z es with
  |none=>rw[e]at q;cases q
  |some bs=>
   rw[e]at q
   cases q
   obtain⟨v,rfl,r⟩:=z4c hr
   unfold Rep at r
   obtain⟨a,xs,rfl,_,h,rs⟩:=r
   rw[z3C e rs]at h
   exact⟨a,bs,rfl,SqL.of h,k _ H (.refl H) rfl⟩
 ·cases q
theorem y7O{f:DE}(hc:X.calm=true)(hg:Gl X "all")(hm:X.mg "all" = none)(h:PD X e f)(he:starEach [e] X.env=[(false,eval e X.env)]:=by rfl):PD X (.Call (.Name "all" p) [e] [] pos) (z0p allF [f]):=
 z4g (y3h hc) oa_all hg hm PyProof.Rows.Boot.«all» (z0a h z0d he) (by decide) (by decide) he rfl
theorem pd_any{f:DE}(hc:X.calm=true)(hg:Gl X "any")(hm:X.mg "any" = none)(h:PD X e f)(he:starEach [e] X.env=[(false,eval e X.env)]:=by rfl):PD X (.Call (.Name "any" p) [e] [] pos) (z0p anyF [f]):=
 z4g (y1s hc) oa_any hg hm PyProof.Rows.Boot.«any» (z0a h z0d he) (by decide) (by decide) he rfl
/-- list(x) of a list or a tuple -/
def z2n:List D->Option (List D)
 |[.lst ds]=>some ds
 |[.tup ds]=>some ds
 |[.scr ns]=>some (ns.map .int)
 |_=>none
theorem ol_list{K:aa}:OpL K (fun xs H Q=>∃p ys,xs=[.ref p]∧(SqL K H p ys∨SqT K H p ys)∧∀l,H l=none->Q (.ref l) (upd H l (.lst ys))) z2n:=by
 intro H B ds es vs Q hB hr q k
 unfold z2n at q
 split at q
 ·cases q
  obtain⟨v,rfl,r⟩:=z4c hr
  unfold Rep at r
  obtain⟨a,xs,rfl,_,h,rs⟩:=r
  exact⟨a,xs,rfl,.inl (SqL.of h),fun l hl=>k l xs _ (z0t hl) hl z0s (rs.mono (z0t hl))⟩
 ·cases q
  obtain⟨v,rfl,r⟩:=z4c hr
  unfold Rep at r
  obtain⟨a,xs,rfl,h,rs⟩:=r
  exact⟨a,xs,rfl,.inr h,fun l hl=>k l xs _ (z0t hl) hl z0s (rs.mono (z0t hl))⟩
 ·cases q
  obtain⟨v,rfl,r⟩:=z4c hr
  unfold Rep at r
  obtain⟨a,rfl,h⟩:=r
  exact⟨a,_,rfl,.inl h.sq,fun l hl=>k l _ _ (z0t hl) hl z0s (z2a _)⟩
 ·cases q
theorem z2L{f:DE}(hg:Gl X "list")(hm:X.mg "list" = none)(h:PD X e f)(he:starEach [e] X.env=[(false,eval e X.env)]:=by rfl):PF X (.Call (.Name "list" p) [e] [] pos) (z1i z2n [f]):=
 y5m z7g ol_list hg hm PyProof.Rows.Boot.«list» (z0a h z0d he) (by decide) (by decide) he rfl
/-- tuple(x) -/
def tupF:List D->Option D
 |[.lst ds]=>some (.tup ds)
 |[.tup ds]=>some (.tup ds)
 |_=>none
end
end L2

/-! ### E7: isinstance;lists that are owned,changed -/
namespace L2
open PySem PySem.Spec PyProof.Rows

def tyN:D->String
 |.non => "NoneType"
 |.bl _ => "bool"
 |.int _ => "int"
 |.str _ => "str"
 |.lst _ => "list"
 |.tup _ => "tuple"
 |.scr _ => "list"
 |.dct _ _ => "dict"
 |.exc _ => "object"
 |.obj _ _ _ _ => "object"
 |.cel _ _ => "list"
/-- isinstance(x,T) for these T -/
inductive IsT:String->Prop where
 |bool:IsT "bool" |int:IsT "int" |str:IsT "str" |list:IsT "list" |tuple:IsT "tuple" |dict:IsT "dict"
def isF(T:String)(d:D):Bool:=tyN d==T||(tyN d == "bool" && T == "int")
theorem kit_tt(K:aa){T:String}(h:IsT T)(d:D)(hd:∀x,d≠.exc x)(hd2:∀x a ks ds,d≠.obj x a ks ds):bO K (.type (tyN d)) (.type T)=some (isF T d):=by
 cases h <;> cases d <;> first | kernel_rfl | exact absurd rfl (hd _) | exact absurd rfl (hd2 _ _ _ _)
section
variable{prog:dN}{w:dO}{A:Around}{E:Value->dw->Prop}{K:aa}{x D:Addr}{ox:Obj}{s:dw}
/-- the class of an exception of the program's own,by its name __class__ -/
theorem y2d{Q:Option Value->dw->Prop}(X:K.In s.heap)(I:cz s.heap x ox D none)(hga:aC K (.ref D) "__getattribute__" = some (some (.builtin "BaseException.__getattribute__")))(hgh:aC K (.ref D) "__getattr__" = some none)
  (hf:cQ K D none "__class__" = some (.bind (.builtin "getset_descriptor.__get__") (.builtin "object.__class__"))) (hm:br K D (.type "object")=some true) (hb:br K D (.type "BaseException")=some true)
  (h:Q (some (.ref D)) { s with toks:=s.toks+1 }):wpAny (model prog w) A (getAttr? (.ref x) "__class__") Q E s:=by
 obtain⟨hp,gs,dr,tk,os⟩:=s
 have T0:=I.type (M:=model prog w)
 have T1:=de (M:=model prog w) X hga
 have T2:=de (M:=model prog w) X hgh
 have T3:=PySem.W.looks_find (M:=model prog w) X I hf
 have T4:=PySem.W.looks_mroIn (M:=model prog w) X hb
 have hne:(onTheHeap (Value.ref D)&&Value.builtin "BaseException.__getattribute__" == Value.builtin "object.__getattribute__")=false:=by
  have z:(Value.builtin "BaseException.__getattribute__" == Value.builtin "object.__getattribute__")=false:=by decide +kernel
  rw[z,da]
 unfold getAttr? getAttrBy?
 refine wpAny_bind (wpAny_mkText ?_)
 refine wpAny_bind (wpAny_attempt ?_)
 unfold getAttrBy
 refine wpAny_holding (wpAny_bind (T0.at ?_))
 refine wpAny_bind (T1.at ?_)
 dsimp only
 rw[hne,if_neg aj]
 unfold getAttrByItsOwn hookBefore
 rw[if_pos (show onTheHeap (Value.ref D)=true from rfl)]
 refine wpAny_bind (T2.at ?_)
 refine wpAny_bind (wpAny_attempt (wpAny_holding ?_))
 unfold callGetattribute boundAndCalled
 rw[cG,if_neg aj,F.excAttr_ValueError.ga.bind]
 refine wpAny_bind (wpAny_pure ?_)
 refine wpAny_call (codeAny_call_builtin F.excAttr_ValueError.ga.plain F.entry_bexc_ga ?_)
 have k1:builtinKind "BaseException.__getattribute__" = some .slot:=by decide +kernel
 have k2:splitId "BaseException.__getattribute__" = some ("BaseException", "__getattribute__"):=by decide +kernel
 simp only[checkBuiltinCall,k1,k2]
 have ha:=F.args_bexc_ga (.ref x) (.str "__class__" tk)
 have TI:PySem.W.Looks (model prog w) hp (isInstance (.ref x) (.type "BaseException")) true:=T0.andThen T4
 show wpAny _ _ (isInstance (.ref x) (.type "BaseException") >>= _) _ _ _
 refine wpAny_bind (TI.at ?_)
 rw[if_neg (by decide)]
 unfold argsOk at ha
 refine wpAny_of_eq (a:=()) ha ?_
 unfold Builtin.«object.__getattribute__»
 refine wpAny_bind (wpAny_of_eq (a:=(Value.ref x,[Value.str "__class__" tk])) rfl ?_)
 dsimp only
 refine wpAny_bind (wpAny_of_eq (a:=("__class__" : Str)) rfl ?_)
 refine wpAny_bind (T0.at ?_)
 refine wpAny_bind (T3.at ?_)
 show wpAny _ _ (holding [Value.builtin "object.__class__"] (call (.builtin "getset_descriptor.__get__") [.builtin "object.__class__",.ref x,.ref D]) >>= ret) _ _ _
 refine wpAny_bind (wpAny_holding (wpAny_call (PySem.W.class_get X I hm ?_)))
 refine wpAny_pure ?_
 exact PySem.W.handed_on rfl (wpAny_pure h)
end
theorem xcls_of{K:aa}{C:Addr}(h:y3c K C=true):aC K (.ref C) "__getattribute__" = some (some (.builtin "BaseException.__getattribute__"))∧aC K (.ref C) "__getattr__" = some none∧br K C (.type "BaseException")=some true∧(c7 K C).isSome=true ∧
  aC K (.ref C) "__class__" = some (some (.builtin "object.__class__"))∧bE K (.builtin "object.__class__") "__get__" = some (some (.builtin "getset_descriptor.__get__"))∧bW K (.builtin "object.__class__")=some true∧br K C (.type "object")=some true:=by
 unfold y3c at h
 simp only[aF,beq_iff_eq]at h
 exact⟨h.1.1.1.1.1.1.1.1,h.1.1.1.1.1.1.1.2,h.1.1.1.1.1.1.2,h.1.1.1.1.1.2,h.1.1.1.1.2,h.1.1.1.2,h.1.1.2,h.1.2⟩
theorem icls_of{K:aa}{C:Addr}{ks:List Str}(h:y0d K C ks=true):Cls K C∧aC K (.ref C) "__class__" = some (some (.builtin "object.__class__"))∧bE K (.builtin "object.__class__") "__get__" = some (some (.builtin "getset_descriptor.__get__"))∧bW K (.builtin "object.__class__")=some true∧br K C (.type "object")=some true ∧
  (["bool", "int", "str", "list", "tuple", "dict"].all fun T=>bO K (.ref C) (.type T)==some false)=true∧∀f∈ks,NoAttr K C f:=by
 unfold y0d at h
 rw[aA,aA,aA,aA,aA,aA,aA,aA,aA]at h
 obtain⟨⟨⟨⟨⟨⟨⟨⟨⟨a1,a2⟩,a3⟩,a4⟩,a5⟩,a6⟩,a7⟩,a8⟩,a9⟩,a10⟩:=h
 rw[aK]at a10
 exact⟨⟨a1,a2,a3,beq_iff_eq.mp a4⟩,beq_iff_eq.mp a5,beq_iff_eq.mp a6,beq_iff_eq.mp a7,beq_iff_eq.mp a8,a9,fun f hf=>beq_iff_eq.mp (a10 f hf)⟩
/-- an exception answers isinstance by its class -/
theorem y5l{K:aa}{x C:Addr}{ox:Obj}(h:y3c K C=true):PySem.W.KitX K (.ref x) (.ref C) (fun g=>cz g x ox C none):=by
 obtain⟨g1,g2,g3,h2,h3,h4,h5,h6⟩:=xcls_of h
 obtain⟨cd,hcd⟩:=ca.mp h2
 have hk:∃c d sl,K.lookup C=some ⟨c,d,.cls cd,sl⟩:=by
  unfold c7 at hcd
  split at hcd
  ·cases hcd;exact⟨_,_,_,by assumption⟩
  ·cases hcd
 obtain⟨c0,d0,sl0,hk⟩:=hk
 have hf:cQ K C none "__class__" = some (.bind (.builtin "getset_descriptor.__get__") (.builtin "object.__class__")):=by
  unfold cQ
  rw[hcd,af,h3,af]
  simp[h4,h5]
 refine⟨fun _ _ _ I=>I.type,fun _ _ X _=>?_,fun g tp dd its n sl X ht=>?_,fun X I k=>?_⟩
 ·intro A' Q' E' s' kk q
  unfold isType loadHead
  exact wpAny_bind (wpAny_loadPart (kk _ _ (X _ _ hk)) (wpAny_pure q))
 ·cases hz:(Value.ref C==Value.ref tp)with
  |false=>rfl
  |true=>
   have e:C=tp:=Value.ref.inj (beq_iff_eq.mp hz)
   rw[←e]at ht
   have z:=(X _ _ hk).symm.trans ht
   cases z
 ·exact y2d X I g1 g2 hf h6 g3 k
theorem exc_at{X:Cx}{pins:List (Addr×Obj)}{σ:St}{H:Hp}{s:dw}{a C:Addr}(I:Inv X pins σ H s)(h:H a=some (.ext (isX a C))):∃o,cz s.heap a o C none:=by
 obtain⟨⟨o,h1,h2,h3,h4⟩,_⟩:=(show ObjOk X.prog X.w H s.heap a (.ext (isX a C)) from I.hok a _ h)
 exact⟨o,h1,h2,h4,by rw[h3];trivial⟩
section
variable{X:Cx}{pins:List (Addr×Obj)}{σ:St}{H:Hp}{s:dw}{B:Addr->Prop}{A:Around}{E:Value->dw->Prop}{Q:Value->dw->Prop}
theorem z9Q{d:D}{v:V}{u:Value}{T:String}(I:Inv X pins σ H s)(r:Rep X.K H B d v)(rv:RelV v u)(hT:IsT T)(h:∀tk,Q (.bool (isF T d)) { s with toks:=tk }):wpAny (model X.prog X.w) A (call (.builtin "isinstance") [u,.type T]) Q E s:=by
 by_cases hd:∃x,d = .exc x
 ·obtain⟨x,rfl⟩:=hd
  unfold Rep at r
  obtain⟨a,C,rfl,_,hq,_,hx⟩:=r
  cases rv
  obtain⟨o,ie⟩:=exc_at I hq
  have e:bO X.K (.ref C) (.type T)=some (isF T (.exc x)):=by
   have h6:=(aA.mp hx).2
   rw[aK]at h6
   have h7:=beq_iff_eq.mp (h6 T (by cases hT <;> decide))
   rw[h7]
   cases hT <;> rfl
  exact aX (y5l hx) I.kIn ie e (fun z=>nomatch z) h
 have hd:∀x,d≠.exc x:=fun x z=>hd ⟨x,z⟩
 by_cases hd2:∃x a ks ds,d = .obj x a ks ds
 ·obtain⟨x,a,ks,ds,rfl⟩:=hd2
  unfold Rep at r
  obtain⟨C,dx,fs,_,hq,⟨rfl,_,hx,_⟩,_⟩:=r
  cases rv
  obtain⟨cl,h3,h4,h5,h6,h7,_⟩:=icls_of hx
  obtain⟨mA,O,_⟩:=ins_get I.hok hq
  obtain⟨od,J,_⟩:=O.look
  have e:bO X.K (.ref C) (.type T)=some (isF T (.obj x a ks ds)):=by
   rw[aK]at h7
   have h8:=beq_iff_eq.mp (h7 T (by cases hT <;> decide))
   rw[h8]
   cases hT <;> rfl
  exact aX (PySem.W.kitx_own (cl.get _) cl.hd h3 h4 h5 h6) I.kIn J e (fun z=>nomatch z) h
 have e:=kit_tt X.K hT d hd (fun x a ks ds z=>hd2 ⟨x,a,ks,ds,z⟩)
 cases d with
 |exc x=>exact absurd rfl (hd x)
 |obj x a ks ds=>exact absurd ⟨x,a,ks,ds,rfl⟩ hd2
 |non=>cases r;cases rv;exact aX PySem.W.kitx_none I.kIn True.intro e (fun z=>nomatch z) h
 |bl y=>cases r;cases rv;exact aX PySem.W.kitx_bool I.kIn True.intro e (fun z=>nomatch z) h
 |int i=>cases r;obtain⟨t,q⟩:=rv;cases q;exact aX PySem.W.kitx_int I.kIn True.intro e (fun z=>nomatch z) h
 |str y=>cases r;obtain⟨t,q⟩:=rv;cases q;exact aX PySem.W.kitx_str I.kIn True.intro e (fun z=>nomatch z) h
 |cel a ds=>
  unfold Rep at r
  obtain⟨xs,_,hq,rfl,_⟩:=r
  cases rv
  obtain⟨its,_,⟨o,n,e1,c,_⟩,_⟩:=I.list (SqL.of hq)
  exact aX cL I.kIn ⟨o,e1,c⟩ e (fun z=>nomatch z) h
 |lst ds=>
  unfold Rep at r
  obtain⟨a,xs,rfl,_,hq,_⟩:=r
  cases rv
  obtain⟨its,_,⟨o,n,e1,c,_⟩,_⟩:=I.list (SqL.of hq)
  exact aX cL I.kIn ⟨o,e1,c⟩ e (fun z=>nomatch z) h
 |tup ds=>
  unfold Rep at r
  obtain⟨a,xs,rfl,hq,_⟩:=r
  cases rv
  obtain⟨its,_,⟨o,e1,c,_⟩,_⟩:=I.tuple hq
  exact aX PySem.W.kitx_tuple I.kIn ⟨o,e1,c⟩ e (fun z=>nomatch z) h
 |scr ns=>
  unfold Rep at r
  obtain⟨a,rfl,hq⟩:=r
  cases rv
  obtain⟨its,_,⟨o,n,e1,c,_⟩,_⟩:=I.list hq.sq
  exact aX cL I.kIn ⟨o,e1,c⟩ e (fun z=>nomatch z) h
 |dct ks ds=>
  unfold Rep at r
  obtain⟨a,kvs,rfl,_,ea,_⟩:=r
  cases rv
  obtain⟨_,_,vs,_,p⟩:=(show ObjOk X.prog X.w H s.heap a (.dK kvs) from I.hok a _ ea)
  obtain⟨o,es,ep,h1,h2,_⟩:=p
  exact aX PySem.W.kitx_dict I.kIn ⟨o,h1,h2.1⟩ e (fun z=>nomatch z) h
end
section
variable{X:Cx}{e:Expr}{p p2 pos:Pos}
def dIs(T:String)(f:DE):DE:=fun δ=>(f δ).map fun d=>.bl (isF T d)
theorem y5c{T:String}(hT:IsT T):CallR X (.builtin "isinstance") (fun xs H Q=>∃B d v,xs=[v,.ty T]∧Rep X.K H B d v∧Q (.bl (isF T d)) H):=by
 intro pins s σ H xs us Q I r h
 obtain⟨B,d,v,rfl,rv,q⟩:=h
 obtain⟨u,w',rfl,r1,r2⟩:=vals2 r
 cases r2
 exact z9Q I rv r1 hT fun tk=>⟨.bl _,H,I.tok tk,rfl,q⟩
theorem pd_is{f:DE}{x:Str}{T:String}(hT:IsT T)(hb:dZ x=some (.type T))(hx:Gl X x)(hmx:X.mg x=none)(hnx:x ≠ "__name__")(hdx:(x==("__debug__" : Str))=false)(hg:Gl X "isinstance")(hm:X.mg "isinstance" = none)(h:PD X e f)
  (he:starEach [e,.Name x p2] X.env=[(false,eval e X.env),(false,eval (.Name x p2) X.env)]:=by rfl) (he2:starEach [.Name x p2] X.env=[(false,eval (.Name x p2) X.env)]:=by rfl):PD X (.Call (.Name "isinstance" p) [e,.Name x p2] [] pos) (dIs T f):=
 (z6e (y5c hT) hg hm boot_isinstance (z1v h (z1v (pe_bltn (v:=.ty T) hx hmx hb rfl hnx hdx) pa_nil he2) (by rw[he,he2])) (by decide) (by decide) (by rw[he,he2]) (by rw[he2];rfl)).imp fun σ H Q ⟨B,δ,d,hB,S,q,k⟩=>by
  unfold dIs at q
  cases e1:f δ with
  |none=>rw[e1]at q;cases q
  |some d'=>
   rw[e1]at q
   cases q
   exact⟨B,δ,d',hB,S,e1,fun v H1 s1 r1=>⟨B,d',v,rfl,r1,k _ H1 s1 rfl⟩⟩
theorem z4P{f:DE}(hx:Gl X "bool")(hmx:X.mg "bool" = none)(hg:Gl X "isinstance")(hm:X.mg "isinstance" = none)(h:PD X e f)(he:starEach [e,.Name "bool" p2] X.env=[(false,eval e X.env),(false,eval (.Name "bool" p2) X.env)]:=by rfl):
  PD X (.Call (.Name "isinstance" p) [e,.Name "bool" p2] [] pos) (dIs "bool" f):=pd_is .bool PyProof.Rows.Boot.«bool» hx hmx (by decide) (by decide) hg hm h he rfl
theorem z8R{f:DE}(hx:Gl X "int")(hmx:X.mg "int" = none)(hg:Gl X "isinstance")(hm:X.mg "isinstance" = none)(h:PD X e f)(he:starEach [e,.Name "int" p2] X.env=[(false,eval e X.env),(false,eval (.Name "int" p2) X.env)]:=by rfl):
  PD X (.Call (.Name "isinstance" p) [e,.Name "int" p2] [] pos) (dIs "int" f):=pd_is .int PyProof.Rows.Boot.«int» hx hmx (by decide) (by decide) hg hm h he rfl
theorem z4F{f:DE}(hx:Gl X "list")(hmx:X.mg "list" = none)(hg:Gl X "isinstance")(hm:X.mg "isinstance" = none)(h:PD X e f)(he:starEach [e,.Name "list" p2] X.env=[(false,eval e X.env),(false,eval (.Name "list" p2) X.env)]:=by rfl):
  PD X (.Call (.Name "isinstance" p) [e,.Name "list" p2] [] pos) (dIs "list" f):=pd_is .list PyProof.Rows.Boot.«list» hx hmx (by decide) (by decide) hg hm h he rfl
end

/-! ### an owned list is changed -/
/-- what was lent by slot i is forgotten -/
def z7V(i:Nat):Option SD->Option SD
 |some (.bo r d)=>if r=i then none else some (.bo r d)
 |o=>o
def z0r(i:Nat)(δ:SS):SS:=δ.map (z7V i)
theorem z1q{i j:Nat}{δ:SS}{x:SD}(h:(z0r i δ)[j]? = some (some x)):δ[j]? = some (some x)∧∀d,x≠.bo i d:=by
 unfold z0r at h
 rw[aL]at h
 cases e:δ[j]? with
 |none=>rw[e]at h;cases h
 |some o=>
  rw[e]at h
  have h':z7V i o=some x:=Option.some.inj h
  unfold z7V at h'
  split at h'
  ·rename_i r d
   split at h'
   ·cases h'
   ·rename_i hr
    cases h'
    exact⟨rfl,fun d' z=>by cases z;exact hr rfl⟩
  ·rename_i hn
   subst h'
   exact⟨rfl,fun d z=>hn i d (by rw[z])⟩
section
variable{K:aa}{H0 H:Hp}{B0:Addr->Prop}{σ:St}{δ:SS}{R:Nat->List Addr}
/-- the list at a,of the slot i's tree,is rewritten: the tree behind it is told;what is new since Hold may come in -/
theorem RS.rewrite{Hold:Hp}{i:Nat}{d d':D}{a:Addr}{o:HO}{v:V}{A':List Addr}(h:RS K H0 B0 Hold σ δ R)(e:Same Hold H)(hi:δ[i]? = some (some (.ow d)))(hv:σ[i]? = some (some v))(ha:a∈R i)(t:Tree K (upd H a o) d' v A')(nd:A'.Nodup)(sub:∀b∈A',b∈R i∨Hold b=none):
  RS K H0 B0 (upd H a o) σ ((z0r i δ).set i (some (.ow d'))) (z5G R i A')∧Stp R Hold (z5G R i A') (upd H a o):=by
 have hm:=h.mono e
 obtain⟨oa,ea,ma⟩:=hm.held i a ha
 have mH:Mut (H a):=by rw[ea];exact ma
 have mem:∀r b,b∈z5G R i A' r->b∈R r∨(r=i∧Hold b=none):=fun r b z=>by
  by_cases hr:r=i
  ·subst hr;rw[z0N]at z;exact(sub b z).imp id fun q=>⟨rfl,q⟩
  ·rw[z1A hr]at z;exact .inl z
 have kt:KeepI K H (upd H a o):=(Keep.upd (K:=K) (B:=fun x=>x=a) rfl mH).i
 have nh:∀r b,b∈R r->Hold b=none->False:=fun r b z q=>by
  obtain⟨u,q',_⟩:=h.held r b z
  rw[q]at q';cases q'
 refine⟨⟨fun b u q=>?_,h.inB,by simp[z0r,h.len],fun r b z=>?_,fun r b z=>?_,fun r s b z z'=>?_,fun j d2 z=>?_,fun j r2 d2 z=>?_,fun j d2 z=>?_⟩,⟨fun b u q n=>?_,fun r b z=>?_,fun b z=>?_⟩⟩
 ·have ne:b≠a:=fun z=>by subst z;rw[h.new i b ha]at q;cases q
  rw[z0n ne];exact hm.keep b u q
 ·rcases mem r b z with z | ⟨_,z⟩
  ·exact h.new r b z
  ·exact h.keep.free z
 ·by_cases hr:r=i
  ·subst hr;rw[z0N]at z;exact t.held d' b z
  ·rw[z1A hr]at z
   have ne:b≠a:=fun q=>hr (h.disj r i b z (q ▸ ha))
   rw[z0n ne];exact hm.held r b z
 ·rcases mem r b z with z | ⟨z1,z2⟩ <;> rcases mem s b z' with z' | ⟨z1',z2'⟩
  ·exact h.disj r s b z z'
  ·exact(nh r b z z2').elim
  ·exact(nh s b z' z2).elim
  ·rw[z1,z1']
 ·rcases z1r z with⟨rfl,q,_⟩ | ⟨hj,q⟩
  ·cases q
  ·obtain⟨q1,_⟩:=z1q q
   obtain⟨w,e1,r⟩:=h.sh j d2 q1
   have r2:=(Rep.wide (C:=fun b=>Hold b=none) (fun _ z=>z) d2 r).mono e
   refine⟨w,e1,Rep.anti ?_ d2 (Rep.keep (.upd (.inl (.inr ⟨i,ha⟩)) mH) d2 r2)⟩
   rintro b (z | ⟨r,z⟩)
   ·exact .inl (.inl z)
   ·rcases mem r b z with z | ⟨_,z⟩
    ·exact .inl (.inr ⟨r,z⟩)
    ·exact .inr z
 ·rcases z1r z with⟨rfl,q,_⟩ | ⟨hj,q⟩
  ·cases q
  ·obtain⟨q1,q2⟩:=z1q q
   have hr:i≠r2:=fun e=>q2 d2 (by rw[e])
   obtain⟨w,e1,r⟩:=h.bo j r2 d2 q1
   have r3:=(Rep.wide (C:=fun b=>Hold b=none) (fun _ z=>z) d2 r).mono e
   refine⟨w,e1,Rep.anti ?_ d2 (Rep.keep (.upd (.inl (.inr ⟨i,hr,ha⟩)) mH) d2 r3)⟩
   rintro b (z | ⟨s,hs,z⟩)
   ·exact .inl (.inl z)
   ·rcases mem s b z with z | ⟨_,z⟩
    ·exact .inl (.inr ⟨s,hs,z⟩)
    ·exact .inr z
 ·rcases z1r z with⟨rfl,q,_⟩ | ⟨hj,q⟩
  ·cases q
   rw[z0N]
   exact⟨v,hv,t,nd⟩
  ·obtain⟨q1,_⟩:=z1q q
   obtain⟨w,e1,t',nd'⟩:=hm.ow j d2 q1
   rw[z1A hj]
   refine⟨w,e1,Tree.keep kt d2 t' fun b hb u q=>?_,nd'⟩
   have ne:b≠a:=fun z=>by subst z;exact hj (h.disj j i b hb ha)
   rw[z0n ne];exact q
 ·have ne:b≠a:=fun z=>n i (z ▸ ha)
  rw[z0n ne];exact e b u q
 ·rcases mem r b z with z | ⟨_,z⟩
  ·exact .inl ⟨r,z⟩
  ·exact .inr z
 ·by_cases hb:b=a
  ·subst hb;rw[z0s]at z;cases z
  ·rw[z0n hb]at z;exact e.free z
/- items that cannot change,in a tree without lists -/
mutual
theorem Tree.flat:∀(d:D) {v:V} {A:List Addr},d.imm=true->Tree K H d v A->A=[]
 |.non,_,_,_,h=>h.2
 |.bl _,_,_,_,h=>h.2
 |.int _,_,_,_,h=>h.2
 |.str _,_,_,_,h=>h.2
 |.lst _,_,_,i,_=>by unfold D.imm at i;cases i
 |.dct _ _,_,_,i,_=>by unfold D.imm at i;cases i
 |.exc _,_,_,i,_=>by unfold D.imm at i;cases i
 |.obj _ _ _ _,_,_,i,_=>by unfold D.imm at i;cases i
 |.cel _ _,_,_,i,_=>by unfold D.imm at i;cases i
 |.tup ds,_,_,i,h=>by
  unfold D.imm at i
  unfold Tree at h
  obtain⟨a,xs,_,_,r⟩:=h
  exact Trees.flat ds i r
 |.scr _,_,_,_,h=>h.2
theorem Trees.flat:∀(ds:List D) {xs:List V} {A:List Addr},z0L ds=true->Trees K H ds xs A->A=[]
 |[],_,_,_,h=>h.2
 |d::ds,_,_,i,h=>by
  unfold z0L at i
  rw[aF]at i
  unfold Trees at h
  obtain⟨x,r,C,C',rfl,h1,h2,rfl⟩:=h
  rw[Trees.flat ds i.2 h2,aG]
  exact Tree.flat d i.1 h1
end
theorem Trees.append:∀{ds es:List D} {xs ys:List V} {A C:List Addr},Trees K H ds xs A->Trees K H es ys C->Trees K H (ds++es) (xs++ys) (A++C)
 |[],_,_,_,_,_,h,h'=>by obtain⟨rfl,rfl⟩:=h;exact h'
 |d::ds,es,_,ys,_,C,h,h'=>by
  unfold Trees at h
  obtain⟨y,r,A1,A2,rfl,h1,h2,rfl⟩:=h
  exact(show Trees K H (d::(ds++es)) (y::(r++ys)) (A1++A2++C) by unfold Trees;exact⟨y,_,A1,A2++C,rfl,h1,Trees.append h2 h',aQ _ _ _⟩)
theorem Trees.split:∀{ds:List D} {xs:List V} {A:List Addr} (k:Nat),Trees K H ds xs A->∃A1 A2,A=A1++A2∧Trees K H (ds.take k) (xs.take k) A1∧Trees K H (ds.drop k) (xs.drop k) A2
 |ds,xs,A,0,h=>⟨[],A,rfl,by rw[cE,cE];exact⟨rfl,rfl⟩,h⟩
 |[],_,_,k+1,h=>by
  obtain⟨rfl,rfl⟩:=h
  exact⟨[],[],rfl,⟨rfl,rfl⟩,⟨rfl,rfl⟩⟩
 |d::ds,_,_,k+1,h=>by
  unfold Trees at h
  obtain⟨y,r,A1,A2,rfl,h1,h2,rfl⟩:=h
  obtain⟨C1,C2,rfl,h3,h4⟩:=Trees.split k h2
  refine⟨A1++C1,C2,(aQ _ _ _).symm,?_,h4⟩
  rw[b4,b4]
  unfold Trees
  exact⟨y,_,A1,C1,rfl,h1,h3,rfl⟩
theorem Trees.one{d:D}{x:V}{A:List Addr}(h:Tree K H d x A):Trees K H [d] [x] A:=by
 unfold Trees
 exact⟨x,[],A,[],rfl,h,⟨rfl,rfl⟩,(aG _).symm⟩
theorem Trees.length:∀{ds:List D} {xs:List V} {A:List Addr},Trees K H ds xs A->ds.length=xs.length
 |[],_,_,h=>by obtain⟨rfl,_⟩:=h;rfl
 |d::ds,_,_,h=>by
  unfold Trees at h
  obtain⟨x,r,_,_,rfl,_,h2,_⟩:=h
  simp[Trees.length h2]
theorem RS.top{i:Nat}{ds:List D}(h:RS K H0 B0 H σ δ R)(hi:δ[i]? = some (some (.ow (.lst ds)))):∃a xs A,σ[i]? = some (some (.ref a))∧H a=some (.lst xs)∧Trees K H ds xs A∧R i=a::A∧(a::A).Nodup:=by
 obtain⟨v,e,t,nd⟩:=h.ow i _ hi
 unfold Tree at t
 obtain⟨a,xs,A,rfl,ha,ts,e2⟩:=t
 rw[e2]at nd
 exact⟨a,xs,A,e,ha,ts,e2,nd⟩
/-- the owned list of slot i gets other items -/
theorem RS.put0{Hold:Hp}{i:Nat}{ds ds':List D}{a:Addr}{xs':List V}{A A':List Addr}(h:RS K H0 B0 Hold σ δ R)(e:Same Hold H)(hi:δ[i]? = some (some (.ow (.lst ds))))(hv:σ[i]? = some (some (.ref a)))(hR:R i=a::A)(nd:(a::A).Nodup)
  (t:Trees K H ds' xs' A') (nd':A'.Nodup) (sub:∀b∈A',b∈A∨Hold b=none):RS K H0 B0 (upd H a (.lst xs')) σ ((z0r i δ).set i (some (.ow (.lst ds')))) (z5G R i (a::A'))∧Stp R Hold (z5G R i (a::A')) (upd H a (.lst xs')):=by
 have ha:a∈R i:=by rw[hR];exact ag
 obtain⟨oa,ea,ma⟩:=h.held i a ha
 have nA:∀b∈A',b≠a:=fun b hb z=>by
  rcases sub b hb with q | q
  ·exact(am.mp nd).1 (z ▸ q)
  ·rw[z,ea]at q;cases q
 have mH:Mut (H a):=by rw[e a oa ea];exact ma
 refine h.rewrite e hi hv ha ?_ (am.mpr ⟨fun z=>nA a z rfl,nd'⟩) fun b hb=>?_
 ·unfold Tree
  refine⟨a,xs',A',rfl,z0s,Trees.keep (Keep.upd (K:=K) (B:=fun x=>x=a) rfl mH).i ds' t fun b hb o q=>?_,rfl⟩
  rw[z0n (nA b hb)];exact q
 ·rw[hR]
  rcases aq.mp hb with z | z
  ·rw[z];exact .inl ag
  ·exact(sub b z).imp (ac _) id
/-- the list that is the k-th item of the owned list of slot i,with items that cannot change,gets other such items -/
theorem Trees.set1{es:List D}:∀{ds:List D} {xs:List V} {A:List Addr} (k:Nat),Trees K H ds xs A->A.Nodup->ds[k]? = some (.lst es)->z0L es=true →
  ∃b ys,xs[k]? = some (.ref b)∧H b=some (.lst ys)∧b∈A∧Trees K H es ys []∧∀es' ys',Trees K H es' ys' []->Trees K (upd H b (.lst ys')) (ds.set k (.lst es')) xs A
 |[],_,_,_,_,_,e,_=>by simp at e
 |d::ds,_,_,0,h,nd,e,hi=>by
  simp at e
  subst e
  unfold Trees at h
  obtain⟨x,r,A1,A2,rfl,h1,h2,rfl⟩:=h
  unfold Tree at h1
  obtain⟨b,ys,C,rfl,hb,tb,rfl⟩:=h1
  have eC:=Trees.flat es hi tb
  subst eC
  have mH:Mut (H b):=by rw[hb];exact trivial
  have kt:∀o,KeepI K H (upd H b o):=fun o=>(Keep.upd (K:=K) (B:=fun x=>x=b) (o:=o) rfl mH).i
  refine⟨b,ys,rfl,hb,by simp,tb,fun es' ys' t'=>?_⟩
  rw[bA]
  unfold Trees
  refine⟨.ref b,r,[b],A2,rfl,?_,Trees.keep (kt _) ds h2 fun c hc o q=>?_,rfl⟩
  ·unfold Tree
   exact⟨b,ys',[],rfl,z0s,Trees.keep (kt _) es' t' (fun c hc=>nomatch hc),rfl⟩
  ·have ne:c≠b:=fun z=>(am.mp nd).1 (by rw[←z];exact hc)
   rw[z0n ne];exact q
 |d::ds,_,_,k+1,h,nd,e,hi=>by
  unfold Trees at h
  obtain⟨x,r,A1,A2,rfl,h1,h2,rfl⟩:=h
  have ndA:=ay.mp nd
  obtain⟨b,ys,e1,hb,hbA,tb,up⟩:=Trees.set1 k h2 ndA.2.1 (by simpa using e) hi
  refine⟨b,ys,by simpa using e1,hb,au _ hbA,tb,fun es' ys' t'=>?_⟩
  have mH:Mut (H b):=by rw[hb];exact trivial
  have kt:KeepI K H (upd H b (.lst ys')):=(Keep.upd (K:=K) (B:=fun x=>x=b) rfl mH).i
  rw[bB]
  unfold Trees
  refine⟨x,r,A1,A2,rfl,Tree.keep kt d h1 fun c hc o q=>?_,up es' ys' t',rfl⟩
  have ne:c≠b:=fun z=>ndA.2.2 c hc b hbA z
  rw[z0n ne];exact q
theorem RS.put1{Hold:Hp}{i k:Nat}{ds es:List D}(h:RS K H0 B0 Hold σ δ R)(e:Same Hold H)(hi:δ[i]? = some (some (.ow (.lst ds))))(hk:ds[k]? = some (.lst es))(hm:z0L es=true):
  ∃a xs b ys,σ[i]? = some (some (.ref a))∧Hold a=some (.lst xs)∧xs[k]? = some (.ref b)∧Hold b=some (.lst ys)∧ds.length=xs.length∧Trees K H es ys []∧∀es' ys',Trees K H es' ys' [] →
   RS K H0 B0 (upd H b (.lst ys')) σ ((z0r i δ).set i (some (.ow (.lst (ds.set k (.lst es')))))) (z5G R i (R i))∧Stp R Hold (z5G R i (R i)) (upd H b (.lst ys')):=by
 obtain⟨a,xs,A,ev,ha,ts,eR,nd⟩:=h.top hi
 obtain⟨b,ys,e1,hb,hbA,tb,_⟩:=Trees.set1 k ts (am.mp nd).2 hk hm
 obtain⟨b',ys',e1',hb',_,tb',up⟩:=Trees.set1 k (ts.mono e) (am.mp nd).2 hk hm
 rw[e1]at e1'
 cases e1'
 refine⟨a,xs,b,ys,ev,ha,e1,hb,ts.length,tb.mono e,fun es' zs t'=>?_⟩
 have hba:b∈R i:=by rw[eR];exact ac _ hbA
 have nba:a≠b:=fun z=>(am.mp nd).1 (z ▸ hbA)
 refine h.rewrite e hi ev hba ?_ (by rw[eR];exact nd) fun c hc=>.inl hc
 rw[eR]
 unfold Tree
 exact⟨a,xs,A,rfl,by rw[z0n nba];exact e _ _ ha,up es' zs t',rfl⟩
end
end L2

/-! ### E8: methods and stores on owned lists;nested comprehensions;slices;arithmetic in short -/
namespace L2
open PySem PySem.Spec PyProof.Rows

instance{i j:Int}:Decidable (CDiv i j):=by unfold CDiv;infer_instance
instance{i j:Int}:Decidable (CPow i j):=by unfold CPow;infer_instance
instance{i j:Int}:Decidable (CMul i j):=by unfold CMul;infer_instance

/-- what a list's method makes of its items,by trees;what it hands back is not looked at -/
def LM(K:aa)(r:V->List V->Hp->VK->Prop)(F:List D->List D->Option (List D)):Prop:=
 ∀(H:Hp) (a:Addr) (xs:List V) (ds args:List D) (vs:List V) (ds':List D) (Q:VK),H a=some (.lst xs)->ds.length=xs.length->Reps K H noB args vs->F ds args=some ds' →
  (∀(w:V) (xs':List V),(∀(H2:Hp) (A C:List Addr),Trees K H2 ds xs A->Trees K H2 args vs C->∃A',Trees K H2 ds' xs' A'∧((A++C).Nodup->A'.Nodup)∧∀b∈A',b∈A∨b∈C)->Q w (upd H a (.lst xs')))->r (.ref a) vs H Q

def z8H:List D->List D->Option (List D):=fun ds args=>match args with
 |[d]=>if ds.length<sizeLine then some (ds++[d])else none
 |_=>none
theorem y4q{K:aa}:LM K z7X z8H:=by
 intro H a xs ds args vs ds' Q ha hl hr q k
 unfold z8H at q
 split at q
 ·rename_i d
  split at q
  ·rename_i hz
   cases q
   obtain⟨y,rfl,ry⟩:=z4c hr
   refine⟨a,xs,y,rfl,rfl,ha,by rw[←hl];exact hz,k _ _ fun H2 A C t tc=>⟨A++C,t.append tc,fun z=>z,fun b hb=>aw.mp hb⟩⟩
  ·cases q
 ·cases q
/-- insert(k,y) -/
def z9O(n:Nat)(i:Int):Nat:=if i<0 then(i+(n:Int)).toNat else min i.toNat n
def y2T:V->List V->Hp->VK->Prop:=fun x vs H Q=>∃l xs i y,x = .ref l∧vs=[.int i,y]∧H l=some (.lst xs)∧xs.length<sizeLine∧-(2 ^ 63)≤i∧i<2 ^ 63∧Q .non (upd H l (.lst (xs.take (z9O xs.length i)++y::xs.drop (z9O xs.length i))))
theorem ins_arr(its:List Value)(k:Nat)(y:Value):(its.toArray.extract 0 k).push y++its.toArray.extract k=(its.take k++y::its.drop k).toArray:=by
 apply Array.ext'
 simp
 rw[dg (by simp)]
theorem y2A{X:Cx}:MtM X "list.insert" y2T:=by
 intro pins s σ H x vs v us Q I rx rv h
 obtain⟨l,xs,i,y,rfl,rfl,hH,hz,h1,h2,q⟩:=h
 cases rx
 obtain⟨u,w',rfl,⟨t,rfl⟩,ry⟩:=rv.two
 obtain⟨z,its,n,r,hl,e⟩:=I.lstM hH
 have hfit:Builtin.List.listFitsIndex i=true:=fitsIndex_both h1 h2
 refine call_meets F.slot_list_insert ⟨_,e,rfl⟩ F.entry_list_insert (F.args_list_insert_3 _ _ _)
  (AutoSeq1.list_insert_list_int_val_1 l its.toArray n i t w' (by rw[hfit];decide) (by rw[ai];omega)) ⟨e,?_⟩
 refine⟨.non,_,I.lset (its':=its.take (z9O its.length i)++w'::its.drop (z9O its.length i)) (ys:=xs.take (z9O xs.length i)++y::xs.drop (z9O xs.length i)) hH e ?_ ?_ ?_,rfl,q⟩
 ·show(its.toArray.extract 0 (if i<0 then(i+(its.toArray.size:Int)).toNat else min i.toNat its.toArray.size)).push w'++its.toArray.extract (if i<0 then(i+(its.toArray.size:Int)).toNat else min i.toNat its.toArray.size)=_
  rw[ins_arr,ai]
  rfl
 ·rw[←hl]
  exact(r.take _).append (.cons ry (r.drop _))
 ·have:z9O xs.length i≤xs.length∨¬ z9O xs.length i≤xs.length:=Decidable.em _
  simp only[av,cq,bv,cr]
  omega
def y2y:List D->List D->Option (List D):=fun ds args=>match args with
 |[.int i,d]=>if ds.length<sizeLine∧-(2 ^ 63)≤i∧i<2 ^ 63 then some (ds.take (z9O ds.length i)++d::ds.drop (z9O ds.length i))else none
 |_=>none
theorem y2w{A1 A2 C:List Addr}(h:(A1++A2++C).Nodup):(A1++(C++A2)).Nodup:=by
 have p:(A1++A2++C).Perm (A1++(C++A2)):=by
  rw[aQ]
  exact List.Perm.append_left _ dq
 exact p.nodup_iff.mp h
theorem y1r{K:aa}:LM K y2T y2y:=by
 intro H a xs ds args vs ds' Q ha hl hr q k
 unfold y2y at q
 split at q
 ·rename_i i d
  split at q
  ·rename_i hz
   cases q
   obtain⟨v,y,rfl,rv,ry⟩:=reps2 hr
   cases (show v=V.int i from rv)
   refine⟨a,xs,i,y,rfl,rfl,ha,by rw[←hl];exact hz.1,hz.2.1,hz.2.2,k _ _ fun H2 A C t tc=>?_⟩
   rw[←hl]
   obtain⟨A1,A2,rfl,t1,t2⟩:=t.split (z9O ds.length i)
   unfold Trees at tc
   obtain⟨x1,r1,C1,C2,e1,h1,h2,rfl⟩:=tc
   cases e1
   obtain⟨_,eC1⟩:=(show V.int i=V.int i∧C1=[] from h1)
   subst eC1
   unfold Trees at h2
   obtain⟨x2,r2,C3,C4,e2,h3,h4,rfl⟩:=h2
   cases e2
   obtain⟨_,rfl⟩:=h4
   refine⟨A1++(C3++A2),t1.append ?_,fun z=>?_,fun b hb=>?_⟩
   ·unfold Trees
    exact⟨_,_,C3,A2,rfl,h3,t2,rfl⟩
   ·simp only[cX,aG]at z
    exact y2w z
   ·simp only[cX,aG,aw]at hb ⊢
    rcases hb with z | z | z
    ·exact .inl (.inl z)
    ·exact .inr z
    ·exact .inl (.inr z)
  ·cases q
 ·cases q
/-- clear() -/
def clrF:List D->List D->Option (List D):=fun _ args=>match args with
 |[]=>some []
 |_=>none
theorem z8r{K:aa}:LM K y7t clrF:=by
 intro H a xs ds args vs ds' Q ha hl hr q k
 unfold clrF at q
 split at q
 ·cases q
  unfold Reps at hr
  subst hr
  exact⟨a,xs,rfl,rfl,ha,k _ _ fun H2 A C t tc=>⟨[],⟨rfl,rfl⟩,fun _=>aY,(fun b hb=>nomatch hb)⟩⟩
 ·cases q

section
variable{X:Cx}{H0:Hp}{B0:Addr->Prop}{fr:Bool}{RX:XR}{e e2:Expr}{es:List Expr}{pos ap cp:Pos}{x name:Str}{px:Pos}{bid:String}{r:V->List V->Hp->VK->Prop}{F:List D->List D->Option (List D)}{fl:List DE}
/-- x.m(..)at the owned list of slot i,with what cannot change;at its k-th item -/
def m0(i:Nat)(F:List D->List D->Option (List D))(fl:List DE):SS->Option Out:=fun δ=>(z0k fl (z0i δ)).bind fun args=>if z0L args=true then(match δ[i]? with
 |some (some (.ow (.lst ds)))=>(F ds args).map fun ds'=>.nx ((z0r i δ).set i (some (.ow (.lst ds'))))
 |_=>none)else none
theorem m0_core{i:Nat}{to:TE}(hL:LM X.K r F)(hto:to=z5m i)(D:Ends)(σ:St)(H:Hp)(h:tS X.K H0 B0 fr RX (m0 i F fl) D σ H):tDrop (tBM X.K "list" r to (tDs X.K (z0k fl))) D σ H:=by
 subst hto
 obtain⟨δ,R,o,rs,q,k⟩:=h
 unfold m0 at q
 cases e1:z0k fl (z0i δ)with
 |none=>rw[e1]at q;cases q
 |some args=>
  rw[e1]at q
  have q:(if z0L args=true then(match δ[i]? with | some (some (.ow (.lst ds)))=>(F ds args).map fun ds'=>Out.nx ((z0r i δ).set i (some (.ow (.lst ds')))) | _=>none)else none)=some o:=q
  split at q
  case isFalse=>cases q
  case isTrue hi=>
  split at q
  case h_2=>cases q
  case h_1 ds ei=>
  cases e2:F ds args with
  |none=>rw[e2]at q;cases q
  |some ds'=>
   rw[e2]at q
   cases q
   obtain⟨a,xs,A,ev,ha,ts,eR,nd⟩:=rs.top ei
   refine⟨.ref a,ev,.inl ⟨rfl,xs,SqL.of ha⟩,noB,z0i δ,args,.no,rs.all,e1,fun vs H2 s2 r2=>?_⟩
   refine hL H2 a xs ds args vs ds' _ (s2 _ _ ha) ts.length r2 e2 fun w xs' up=>?_
   obtain⟨A',t',n',sub⟩:=up H2 A [] (ts.mono s2) (r2.immTree args hi)
   have P:=rs.put0 s2 ei ev eR nd t' (n' (by rw[aG];exact(am.mp nd).2)) fun b hb=>(sub b hb).imp id (fun z=>nomatch z)
   exact k σ _ _ P.1 P.2
theorem s_m0{i:Nat}(slot:Slot "list" name bid)(hty:typeOf (.builtin bid)=pure (.type "method_descriptor"))(hm:MtM X bid r)(hL:LM X.K r F)(hx:PE X (.Name x px) (z5m i))(ha:PAD X (e::es) fl)
  (hbase:dS (.Name x px) name X.env (eval (.Name x px) X.env)=eval (.Name x px) X.env:=by rfl)
  (hfew:((dY cp (starEach (e::es) X.env)).all (fun x=>!x.1)&&(backToKw cp (keywordEach [] X.env)).all (fun x=>x.1.isSome)&&decide ((e::es).length+([]:List d3).length+(if([]:List d3).isEmpty then 0 else 1)<30))=true:=by rfl)
  (hline:(ap.endLine==cp.line)=true:=by rfl) (hs:starEach (e::es) X.env=(false,eval e X.env)::starEach es X.env:=by rfl) (hplain:(dY cp (starEach es X.env)).any (·.1)=false:=by rfl)
  (hsw:swapsWith (.Call (.Attribute (.Name x px) name ap) (e::es) [] cp) none pos.line X.env=pure false:=by rfl):
  PS X (.Expr (.Call (.Attribute (.Name x px) name ap) (e::es) [] cp) pos) (tS X.K H0 B0 fr RX (m0 i F fl)):=
 PS.imp (z2P (y3L PySem.F.plainAttrs_list slot hty hm hx ha hbase hfew hline hs hplain) hsw) (m0_core hL rfl)

/-- x[k].m(..): the k-th item of the owned list of slot i,a list whose items cannot change -/
def m1(i:Nat)(fk:DE)(F:List D->List D->Option (List D))(fl:List DE):SS->Option Out:=fun δ=>(fk (z0i δ)).bind fun dk=>match dk with
 |.int k=>(z0k fl (z0i δ)).bind fun args=>if z0L args=true then(match δ[i]? with
  |some (some (.ow (.lst ds)))=>(ixN ds.length k).bind fun j=>match ds[j]? with
   |some (.lst es)=>if z0L es=true then(F es args).bind fun es'=>if z0L es'=true then some (.nx ((z0r i δ).set i (some (.ow (.lst (ds.set j (.lst es')))))))else none else none
   |_=>none
  |_=>none)else none
 |_=>none
theorem m1_core{i:Nat}{fk:DE}(hL:LM X.K r F)(D:Ends)(σ:St)(H:Hp)(h:tS X.K H0 B0 fr RX (m1 i fk F fl) D σ H):tDrop (tBM X.K "list" r (tOp (rIxL X.K) (z5m i) (tD X.K fk)) (tDs X.K (z0k fl))) D σ H:=by
 obtain⟨δ,R,o,rs,q,kk⟩:=h
 unfold m1 at q
 cases ek:fk (z0i δ)with
 |none=>rw[ek]at q;cases q
 |some dk=>
 rw[ek]at q
 cases dk with
 |int k=>
  cases e1:z0k fl (z0i δ)with
  |none=>
   have q:((z0k fl (z0i δ)).bind _)=some o:=q
   rw[e1]at q;cases q
  |some args=>
   have q:((z0k fl (z0i δ)).bind _)=some o:=q
   rw[e1]at q
   have q:(if z0L args=true then(match δ[i]? with
    |some (some (.ow (.lst ds)))=>(ixN ds.length k).bind fun j=>match ds[j]? with
     |some (.lst es)=>if z0L es=true then(F es args).bind fun es'=>if z0L es'=true then some (Out.nx ((z0r i δ).set i (some (.ow (.lst (ds.set j (.lst es')))))))else none else none
     |_=>none
    |_=>none)else none)=some o:=q
   split at q
   case isFalse=>cases q
   case isTrue hi=>
   split at q
   case h_2=>cases q
   case h_1 ds ei=>
   cases ej:ixN ds.length k with
   |none=>rw[ej]at q;cases q
   |some j=>
    rw[ej]at q
    have q:(match ds[j]? with | some (.lst es)=>if z0L es=true then(F es args).bind fun es'=>if z0L es'=true then some (Out.nx ((z0r i δ).set i (some (.ow (.lst (ds.set j (.lst es')))))))else none else none | _=>none)=some o:=q
    split at q
    case h_2=>cases q
    case h_1 es ed=>
    split at q
    case isFalse=>cases q
    case isTrue hes=>
    cases eF:F es args with
    |none=>rw[eF]at q;cases q
    |some es'=>
     rw[eF]at q
     have q:(if z0L es'=true then some (Out.nx ((z0r i δ).set i (some (.ow (.lst (ds.set j (.lst es')))))))else none)=some o:=q
     split at q
     case isFalse=>cases q
     case isTrue hes'=>
     cases q
     obtain⟨a,xs,b,ys,ev,ha,hxb,hb,hln,_,_⟩:=rs.put1 (.refl H) ei ed hes
     refine⟨.ref a,ev,noB,z0i δ,.int k,.no,rs.all,ek,fun v1 H1 s1 r1=>?_⟩
     cases (show v1=V.int k from r1)
     have hat:atI xs k=some (.ref b):=by
      unfold atI
      rw[←hln,ej]
      exact hxb
     refine⟨a,xs,k,.ref b,rfl,rfl,SqL.of (s1 _ _ ha),hat,.inl ⟨rfl,ys,SqL.of (s1 _ _ hb)⟩,noB,z0i δ,args,.no,rs.all.mono s1,e1,fun vs H2 s2 r2=>?_⟩
     obtain⟨a',xs',b',ys',ev',ha',hxb',hb',_,tb,up⟩:=rs.put1 (s1.trans s2) ei ed hes
     rw[ev]at ev';cases ev'
     rw[ha]at ha';cases ha'
     rw[hxb]at hxb';cases hxb'
     rw[hb]at hb';cases hb'
     refine hL H2 b ys es args vs es' _ (s2 _ _ (s1 _ _ hb)) tb.length r2 eF fun w zs up2=>?_
     obtain⟨A',t',_,sub⟩:=up2 H2 [] [] tb (r2.immTree args hi)
     have eA:A'=[]:=Trees.flat es' hes' t'
     subst eA
     have P:=up es' zs t'
     exact kk σ _ _ P.1 P.2
 |_=>cases q

/-- x[k]=e,x[k][j]=e with what cannot change -/
def st0(i:Nat)(fk fv:DE):SS->Option Out:=fun δ=>(fv (z0i δ)).bind fun d=>if d.imm=true then(fk (z0i δ)).bind fun dk=>(match dk,δ[i]? with
 |.int k,some (some (.ow (.lst ds)))=>(ixN ds.length k).map fun j=>.nx ((z0r i δ).set i (some (.ow (.lst (ds.set j d)))))
 |_,_=>none)else none
def st1(i:Nat)(fk fj fv:DE):SS->Option Out:=fun δ=>(fv (z0i δ)).bind fun d=>if d.imm=true then(fk (z0i δ)).bind fun dk=>(fj (z0i δ)).bind fun dj=>(match dk,dj,δ[i]? with
 |.int k,.int j,some (some (.ow (.lst ds)))=>(ixN ds.length k).bind fun k'=>(match ds[k']? with
  |some (.lst es)=>if z0L es=true then(ixN es.length j).map fun j'=>.nx ((z0r i δ).set i (some (.ow (.lst (ds.set k' (.lst (es.set j' d)))))))else none
  |_=>none)
 |_,_,_=>none)else none
end
end L2

/-! ### E9: stores;nested comprehensions;slices;defs that take over a list -/
namespace L2
open PySem PySem.Spec PyProof.Rows
theorem Trees.setI{K:aa}{H:Hp}{d:D}{y:V}(ty:Tree K H d y []):∀{ds:List D} {xs:List V} {A:List Addr} (j:Nat),Trees K H ds xs A->∃A',Trees K H (ds.set j d) (xs.set j y) A'∧A'.Sublist A
 |[],_,_,_,h=>by
  obtain⟨rfl,rfl⟩:=h
  exact⟨[],⟨rfl,rfl⟩,List.Sublist.refl _⟩
 |e::ds,_,_,0,h=>by
  unfold Trees at h
  obtain⟨x,r,A1,A2,rfl,h1,h2,rfl⟩:=h
  refine⟨A2,?_,List.sublist_append_right _ _⟩
  rw[bA,bA]
  unfold Trees
  exact⟨y,r,[],A2,rfl,ty,h2,rfl⟩
 |e::ds,_,_,k+1,h=>by
  unfold Trees at h
  obtain⟨x,r,A1,A2,rfl,h1,h2,rfl⟩:=h
  obtain⟨A',t,sb⟩:=Trees.setI ty k h2
  refine⟨A1++A',?_,List.Sublist.append_left sb _⟩
  rw[bB,bB]
  unfold Trees
  exact⟨x,_,A1,A',rfl,h1,t,rfl⟩
section
variable{X:Cx}{H0:Hp}{B0:Addr->Prop}{fr:Bool}{RX:XR}{e ke je:Expr}{pos:Pos}{x:Str}{px p2 p3:Pos}
theorem s_st0{i:Nat}{fk fv:DE}(hx:PE X (.Name x px) (z5m i))(hk:PD X ke fk)(hv:PD X e fv)
  (ha:∀v,d4 (.Subscript (.Name x px) ke p2) X.env v=(do
   let ov ←holding [v] (eval (.Name x px) X.env)
   let iv ←holding [v,ov] (eval ke X.env)
   standAt p2
   holding [v,ov,iv] (setItem ov iv v)
   release [v,ov,iv] []):=by intro _;rfl)
  (hs:swapsWithSole [.Subscript (.Name x px) ke p2] e pos.line X.env=pure false:=by rfl) (hw:swappedStores [.Subscript (.Name x px) ke p2] e X.env=pure none:=by rfl)
  (h1:(dW [.Subscript (.Name x px) ke p2] X.env).map (·.2)=[d4 (.Subscript (.Name x px) ke p2) X.env]:=by rfl):
  PS X (.Assign [.Subscript (.Name x px) ke p2] e pos) (tS X.K H0 B0 fr RX (st0 i fk fv)):=
 PS.imp (y3T hv (y0r hx hk z6n ha) hs hw h1) fun D σ H ⟨δ,R,o,rs,q,kk⟩=>by
  unfold st0 at q
  cases e1:fv (z0i δ)with
  |none=>rw[e1]at q;cases q
  |some d=>
  rw[e1]at q
  have q:(if d.imm=true then(fk (z0i δ)).bind fun dk=>(match dk,δ[i]? with
   |.int k,some (some (.ow (.lst ds)))=>(ixN ds.length k).map fun j=>Out.nx ((z0r i δ).set i (some (.ow (.lst (ds.set j d)))))
   |_,_=>none)else none)=some o:=q
  split at q
  case isFalse=>cases q
  case isTrue hi=>
  cases e2:fk (z0i δ)with
  |none=>rw[e2]at q;cases q
  |some dk=>
  rw[e2]at q
  simp only[af]at q
  split at q
  case h_2=>cases q
  case h_1=>
  rename_i k ds ei
  cases ej:ixN ds.length k with
  |none=>rw[ej]at q;cases q
  |some j=>
  rw[ej]at q
  cases q
  obtain⟨a,xs,A,ev,ha',ts,eR,nd⟩:=rs.top ei
  refine⟨noB,z0i δ,d,.no,rs.all,e1,fun v H1 s1 r1=>⟨.ref a,ev,noB,z0i δ,.int k,.no,rs.all.mono s1,e2,fun v2 H2 s2 r2=>?_⟩⟩
  cases (show v2=V.int k from r2)
  refine⟨a,xs,k,j,rfl,rfl,s2 _ _ (s1 _ _ ha'),by rw[←ts.length];exact ej,?_⟩
  obtain⟨A',t',sb⟩:=Trees.setI ((r1.immTree d hi).mono s2) j (ts.mono (s1.trans s2))
  have P:=rs.put0 (s1.trans s2) ei ev eR nd t' ((am.mp nd).2.sublist sb) fun b hb=>.inl (sb.subset hb)
  exact kk σ _ _ P.1 P.2
theorem s_st1{i:Nat}{fk fj fv:DE}(hx:PE X (.Name x px) (z5m i))(hk:PD X ke fk)(hj:PD X je fj)(hv:PD X e fv)(hpi:z4q ke:=by intro _ _;rfl)
  (ha:∀v,d4 (.Subscript (.Subscript (.Name x px) ke p3) je p2) X.env v=(do
   let ov ←holding [v] (eval (.Subscript (.Name x px) ke p3) X.env)
   let iv ←holding [v,ov] (eval je X.env)
   standAt p2
   holding [v,ov,iv] (setItem ov iv v)
   release [v,ov,iv] []):=by intro _;rfl)
  (hs:swapsWithSole [.Subscript (.Subscript (.Name x px) ke p3) je p2] e pos.line X.env=pure false:=by rfl) (hw:swappedStores [.Subscript (.Subscript (.Name x px) ke p3) je p2] e X.env=pure none:=by rfl)
  (h1:(dW [.Subscript (.Subscript (.Name x px) ke p3) je p2] X.env).map (·.2)=[d4 (.Subscript (.Subscript (.Name x px) ke p3) je p2) X.env]:=by rfl):
  PS X (.Assign [.Subscript (.Subscript (.Name x px) ke p3) je p2] e pos) (tS X.K H0 B0 fr RX (st1 i fk fj fv)):=
 PS.imp (y3T hv (y0r (y4W ix_list hx hk hpi) hj z6n ha) hs hw h1) fun D σ H ⟨δ,R,o,rs,q,kk⟩=>by
  unfold st1 at q
  cases e1:fv (z0i δ)with
  |none=>rw[e1]at q;cases q
  |some d=>
  rw[e1]at q
  have q:(if d.imm=true then(fk (z0i δ)).bind fun dk=>(fj (z0i δ)).bind fun dj=>(match dk,dj,δ[i]? with
   |.int k,.int j,some (some (.ow (.lst ds)))=>(ixN ds.length k).bind fun k'=>(match ds[k']? with
    |some (.lst es)=>if z0L es=true then(ixN es.length j).map fun j'=>Out.nx ((z0r i δ).set i (some (.ow (.lst (ds.set k' (.lst (es.set j' d)))))))else none
    |_=>none)
   |_,_,_=>none)else none)=some o:=q
  split at q
  case isFalse=>cases q
  case isTrue hi=>
  cases e2:fk (z0i δ)with
  |none=>rw[e2]at q;cases q
  |some dk=>
  cases e3:fj (z0i δ)with
  |none=>rw[e2,e3]at q;cases q
  |some dj=>
  rw[e2,e3]at q
  simp only[af]at q
  split at q
  case h_2=>cases q
  case h_1=>
  rename_i k j ds ei
  cases ek:ixN ds.length k with
  |none=>rw[ek]at q;cases q
  |some k'=>
  rw[ek]at q
  have q:(match ds[k']? with
    |some (.lst es)=>if z0L es=true then(ixN es.length j).map fun j'=>Out.nx ((z0r i δ).set i (some (.ow (.lst (ds.set k' (.lst (es.set j' d)))))))else none
    |_=>none)=some o:=q
  split at q
  case h_2=>cases q
  case h_1 es ed=>
  split at q
  case isFalse=>cases q
  case isTrue hes=>
  cases ej:ixN es.length j with
  |none=>rw[ej]at q;cases q
  |some j'=>
  rw[ej]at q
  cases q
  obtain⟨a,xs,b,ys,ev,ha',hxb,hb,hln,_,_⟩:=rs.put1 (.refl H) ei ed hes
  have hat:atI xs k=some (.ref b):=by
   unfold atI
   rw[←hln,ek]
   exact hxb
  refine⟨noB,z0i δ,d,.no,rs.all,e1,fun v H1 s1 r1=>⟨.ref a,ev,noB,z0i δ,.int k,.no,rs.all.mono s1,e2,fun v2 H2 s2 r2=>?_⟩⟩
  cases (show v2=V.int k from r2)
  refine⟨a,xs,k,.ref b,rfl,rfl,SqL.of (s2 _ _ (s1 _ _ ha')),hat,noB,z0i δ,.int j,.no,(rs.all.mono s1).mono s2,e3,fun v3 H3 s3 r3=>?_⟩
  cases (show v3=V.int j from r3)
  obtain⟨a',xs',b',ys',ev',ha'',hxb',hb',_,tb,up⟩:=rs.put1 ((s1.trans s2).trans s3) ei ed hes
  rw[ev]at ev';cases ev'
  rw[ha']at ha'';cases ha''
  rw[hxb]at hxb';cases hxb'
  rw[hb]at hb';cases hb'
  refine⟨b,ys,j,j',rfl,rfl,s3 _ _ (s2 _ _ (s1 _ _ hb)),by rw[←tb.length];exact ej,?_⟩
  obtain⟨A',t',sb⟩:=Trees.setI (((r1.immTree d hi).mono s2).mono s3) j' tb
  have eA:A'=[]:=List.sublist_nil.mp sb
  subst eA
  have P:=up _ _ t'
  exact kk σ _ _ P.1 P.2
end

/-! ### slices of lists -/
section
variable{X:Cx}{e a:Expr}{lo hi:Option Expr}{p2 pos:Pos}
def tO(K:aa)(f:DS->Option (Option Int)):TO:=fun σ H Q=>∃B δ o,InB B H∧RepS K H B σ δ∧f δ=some o∧∀H',Same H H'->Q o H'
abbrev POD(X:Cx)(e:Option Expr)(f:DS->Option (Option Int)):Prop:=PO X e (tO X.K f)
theorem PO.imp{eo:Option Expr}{t t':TO}(h:PO X eo t)(w:∀σ H Q,t' σ H Q->t σ H Q):PO X eo t':=fun pins s σ H Q I q=>h pins s σ H Q I (w σ H Q q)
def z6v:DS->Option (Option Int):=fun _=>some none
def y0w(f:DE):DS->Option (Option Int):=fun δ=>match f δ with
 |some (.int i)=>some (some i)
 |_=>none
theorem z9q:POD X none z6v:=po_none.imp fun σ H Q ⟨B,δ,o,hB,S,q,k⟩=>by
 cases q
 exact k H (.refl H)
theorem z8I{f:DE}(h:PD X e f):POD X (some e) (y0w f):=(y1l h).imp fun σ H Q ⟨B,δ,o,hB,S,q,k⟩=>by
 unfold y0w at q
 split at q
 ·rename_i i e1
  cases q
  exact⟨B,δ,.int i,hB,S,e1,fun v H' s r=>⟨i,r,k H' s⟩⟩
 ·cases q
def z7w(ds:List D)(lo hi:Option Int):List D:=(ds.drop (HT.sIx ds.length 0 lo)).take (HT.sIx ds.length ds.length hi - HT.sIx ds.length 0 lo)
def dCut(f:DE)(fl fh:DS->Option (Option Int)):DS->Option (List D):=fun δ=>match f δ with
 |some (.lst ds)=>(fl δ).bind fun lo=>(fh δ).map fun hi=>z7w ds lo hi
 |some (.scr ns)=>(fl δ).bind fun lo=>(fh δ).map fun hi=>z7w (ns.map .int) lo hi
 |_=>none
theorem z8Y{f:DE}{fl fh:DS->Option (Option Int)}(he:PD X e f)(hl:POD X lo fl)(hh:POD X hi fh):PF X (.Subscript e (.Slice lo hi none p2) pos) (dCut f fl fh):=(y4M sl_list he hl hh).imp fun σ H Q ⟨B,δ,ds',hB,S,q,k⟩=>by
 unfold dCut at q
 have core:∀(d:D) (ds:List D),f δ=some d->((fl δ).bind fun lo=>(fh δ).map fun hi=>z7w ds lo hi)=some ds'->(∀v H1,Rep X.K H1 B d v->∃a xs,v = .ref a∧(∀H2,Same H1 H2->SqL X.K H2 a xs)∧Reps X.K H1 B ds xs) →
   tSl (rSlL X.K) (tD X.K f) (tO X.K fl) (tO X.K fh) σ H Q:=by
  intro d ds e1 q get
  cases e2:fl δ with
  |none=>rw[e2]at q;cases q
  |some l=>
  cases e3:fh δ with
  |none=>rw[e2,e3]at q;cases q
  |some u=>
  rw[e2,e3]at q
  cases q
  refine⟨B,δ,_,hB,S,e1,fun v H1 s1 r1=>⟨B,δ,l,hB.mono s1,S.mono s1,e2,fun H2 s2=>⟨B,δ,u,(hB.mono s1).mono s2,(S.mono s1).mono s2,e3,fun H3 s3=>?_⟩⟩⟩
  obtain⟨a,xs,rfl,hq,rs⟩:=get v H1 r1
  refine⟨a,xs,rfl,hq H3 (s2.trans s3),fun p hp=>?_⟩
  have sa:=z0t (o:=.lst (cutV xs l u)) hp
  refine k p _ _ (((s1.trans s2).trans s3).trans sa) ((s1.trans (s2.trans s3)).free hp) z0s ?_
  unfold z7w cutV
  rw[rs.length]
  exact((rs.drop _).take _).mono ((s2.trans s3).trans sa)
 split at q
 case h_3=>cases q
 case h_1 ds e1=>
  refine core _ ds e1 q fun v H1 r1=>?_
  unfold Rep at r1
  obtain⟨a,xs,rfl,_,hq,rs⟩:=r1
  exact⟨a,xs,rfl,fun H2 s2=>SqL.of (s2 _ _ hq),rs⟩
 case h_2 ns e1=>
  refine core _ (ns.map .int) e1 q fun v H1 r1=>?_
  unfold Rep at r1
  obtain⟨a,rfl,hq⟩:=r1
  exact⟨a,_,rfl,fun H2 s2=>(s2.sf hq).sq,z2a ns⟩
end

/-! ### [elt for x in iter if c],each item all new -/
section
variable{X:Cx}{pos:Pos}{x:Str}{iter elt:Expr}{N':List Str}{sc:d5}{ifs:List Expr}{n:Nat}{px:Pos}{fi:DS->Option (List D)}{fc:DS->Option Bool}{fe:DE}
theorem z8B{σ:St}{H:Hp}{Q:VK}(hσ:σ.length=n)(hq:tN X.K (mkL (z0T fi fc fe)) σ H Q):y4B (tI X.K fi) (z2B n) (tT X.K fc) (tN X.K fe) 1 σ H Q:=by
 obtain⟨δ,d0,Sδ,q,k⟩:=hq
 unfold mkL at q
 cases eds:z0T fi fc fe δ with
 |none=>rw[eds]at q;cases q
 |some ds=>
 rw[eds]at q
 cases q
 unfold z0T at eds
 cases e1:fi δ with
 |none=>rw[e1]at eds;cases eds
 |some xs=>
 rw[e1]at eds
 have q1:(if xs.length≤sizeLine then z1V (fun x=>(fc (δ++[some x])).bind fun k=>if k=true then(fe (δ++[some x])).map some else some none) xs else none)=some ds:=eds
 split at q1
 case isFalse=>cases q1
 case isTrue hsz=>
 refine⟨noB,δ,xs,.no,Sδ,e1,fun J H1 s1 itw=>fun Da hD=>?_⟩
 have hD0:H Da=none:=s1.free hD
 have it:=itw (fun a=>H1 a=none) fun a ha=>ha
 refine⟨fun i m σ' H'=>m=xs.length - i∧i≤xs.length∧(∃w,σ'=σ++[w])∧Same H1 H'∧∃ys dn rs A,H' Da=some (.lst ys)∧Trees X.K H' dn ys A∧(Da::A).Nodup∧(∀a∈A,H1 a=none)∧ds=dn++rs∧dn.length≤i ∧
  z1V (fun x=>(fc (δ++[some x])).bind fun k=>if k=true then(fe (δ++[some x])).map some else some none) (xs.drop i)=some rs,
  ⟨xs.length,by simp,bn _,⟨none,rfl⟩,z0t hD,[],[],ds,[],z0s,.nil,am.mpr ⟨(fun z=>nomatch z),aY⟩,(fun a z=>nomatch z),rfl,ak _,q1⟩,?_⟩
 rintro i m σ' H' ⟨rfl,hi',⟨w,rfl⟩,sm,ys,dn,rs,A,hys,tys,nd,fr,hds,hln,hrs⟩
 have kp:Keep X.K (fun a=>noB a∨H1 a=none) H1 H':=.same sm
 by_cases hlt:i<xs.length
 ·refine .inr ⟨it.go i H' kp hlt,fun σ'' H''=>(i+1≤xs.length∧(∃w,σ''=σ++[w])∧Same H1 H''∧∃ys dn rs A,H'' Da=some (.lst ys)∧Trees X.K H'' dn ys A∧(Da::A).Nodup∧(∀a∈A,H1 a=none)∧ds=dn++rs∧dn.length≤i+1 ∧
   z1V (fun x=>(fc (δ++[some x])).bind fun k=>if k=true then(fe (δ++[some x])).map some else some none) (xs.drop (i+1))=some rs),fun σ'' H'' h=>⟨xs.length - (i+1),by omega,rfl,h⟩,fun xv H2 hy=>?_⟩
  obtain⟨s2,d,hd,rd⟩:=it.yld i H' xv H2 kp hy
  have hdi:=hd hlt
  have hx:xs.drop i=d::xs.drop (i+1):=by
   obtain⟨hl,e⟩:=aV.mp hdi
   rw[ba hl,e]
  rw[hx]at hrs
  obtain⟨o,rs',e2,e3,e4⟩:=z5k hrs
  show tT X.K fc ((σ++[w]).set n (some xv)) H2 _
  rw[←hσ,z5L]
  have S2:RepS X.K H2 noB (σ++[some xv]) (δ++[some d]):=(((Sδ.mono s1).mono sm).mono s2).snoc (rd.anti fun a z=>z.elim)
  have hl2:ys.length<sizeLine:=by
   have:=tys.length
   omega
  cases ec:fc (δ++[some d])with
  |none=>rw[ec]at e2;cases e2
  |some kk=>
   rw[ec]at e2
   have e2':(if kk=true then(fe (δ++[some d])).map some else some none)=some o:=e2
   refine⟨noB,δ++[some d],kk,.no,S2,ec,fun H3 s3=>?_⟩
   cases kk with
   |false=>
    rw[if_neg aj]at e2'
    rw[if_neg aj]
    cases e2'
    exact⟨hlt,⟨_,rfl⟩,(sm.trans s2).trans s3,ys,dn,rs',A,s3 _ _ (s2 _ _ hys),(tys.mono s2).mono s3,nd,fr,by rw[hds,e4];rfl,Nat.le_succ_of_le hln,e3⟩
   |true=>
    rw[if_pos rfl]at e2'
    rw[if_pos rfl]
    cases ey:fe (δ++[some d])with
    |none=>rw[ey]at e2';cases e2'
    |some y=>
     rw[ey]at e2'
     cases e2'
     refine⟨δ++[some d],y,S2.mono s3,ey,fun yv H5 A5 s5 t5 nd5 fr5=>⟨ys,s5 _ _ (s3 _ _ (s2 _ _ hys)),hl2,?_⟩⟩
     have s15:Same H' H5:=(s2.trans s3).trans s5
     have hu:H5 Da=some (.lst ys):=s15 _ _ hys
     have mu:Mut (H5 Da):=by rw[hu];exact trivial
     have hDa3:H3 Da=some (.lst ys):=s3 _ _ (s2 _ _ hys)
     have nDa:Da∉A++A5:=fun z=>by
      rcases aw.mp z with z | z
      ·exact(am.mp nd).1 z
      ·have:=fr5 Da z
       rw[hDa3]at this;cases this
     refine⟨hlt,⟨_,rfl⟩,fun b u hb=>?_,ys++[yv],dn++[y],rs',A++A5,z0s,?_,am.mpr ⟨nDa,?_⟩,fun a ha=>?_,by rw[hds,e4,aQ];rfl,by rw[av];simp;omega,e3⟩
     ·rw[z0n (z1f hb hD)]
      exact s15 _ _ (sm _ _ hb)
     ·refine Trees.keep (Keep.upd (K:=X.K) (B:=fun x=>x=Da) rfl mu).i _ ((tys.mono s15).snoc t5) fun b hb u q=>?_
      have ne:b≠Da:=fun z=>nDa (z ▸ hb)
      rw[z0n ne];exact q
     ·refine ay.mpr ⟨(am.mp nd).2,nd5,fun b hb c hc z=>?_⟩
      subst z
      obtain⟨u,q,_⟩:=Trees.held _ tys b hb
      have:=fr5 b hc
      rw[(s2.trans s3) _ _ q]at this;cases this
     ·rcases aw.mp ha with z | z
      ·exact fr a z
      ·exact sm.free ((s2.trans s3).free (fr5 a z))
 ·have e:i=xs.length:=by omega
  subst e
  refine .inl ⟨it.stop _ H' kp (ak _),?_⟩
  rw[bU]at hrs
  cases hrs
  rw[aG]at hds
  subst hds
  refine k (.ref Da) H' (Da::A) (s1.trans sm) ?_ nd fun a ha=>?_
  ·unfold Tree
   exact⟨Da,ys,A,rfl,hys,tys,rfl⟩
  ·rcases aq.mp ha with z | z
   ·rw[z];exact hD0
   ·exact s1.free (fr a z)
theorem z1T(hc:X.calm=true)(S:CompScope X.N X.env.scope.names N' 1 sc)(hn:n=X.N.length)(hi:PID X (.Name x px) iter fi)
  (hg:∀s H fp pins E,PG (z0z X N' sc s H fp pins E) (.Name x px) (z2B n)) (ht:∀s H fp pins E,y4y (z0z X N' sc s H fp pins E) ifs (tT X.K fc)) (he:∀s H fp pins E,PE (z0z X N' sc s H fp pins E) elt (tN X.K fe))
  (hs:∀x,foldedSetIterable iter X.env x=pure x:=by intro _;rfl):PN X (.ListComp elt [⟨.Name x px,iter,ifs,0⟩] sc pos) (mkL (z0T fi fc fe)):=by
 intro pins s σ H Q I hq
 exact y1c hc S hi ⟨hg,ht,he⟩ hs pins s σ H Q I (z8B (by rw[hn,I.len]) hq)
theorem y1Q{i:Nat}{y:Str}{py spos:Pos}(hN:X.N.Nodup)(hy:X.N[i]? = some y)(hyl:X.env.scope.names.lookup y=some .local)(hc:X.calm=true)(S:CompScope X.N X.env.scope.names N' 1 sc)(hn:n=X.N.length)(hi:PID X (.Name x px) iter fi)
  (hg:∀s H fp pins E,PG (z0z X N' sc s H fp pins E) (.Name x px) (z2B n)) (ht:∀s H fp pins E,y4y (z0z X N' sc s H fp pins E) ifs (tT X.K fc)) (he:∀s H fp pins E,PE (z0z X N' sc s H fp pins E) elt (tN X.K fe))
  (hsw:swapsWith (.ListComp elt [⟨.Name x px,iter,ifs,0⟩] sc pos) (some (.Name y py)) spos.line X.env=pure true:=by rfl) (hs:∀x,foldedSetIterable iter X.env x=pure x:=by intro _;rfl):
  PS X (.Assign [.Name y py] (.ListComp elt [⟨.Name x px,iter,ifs,0⟩] sc pos) spos) (tAsg (tN X.K (mkL (z0T fi fc fe))) (z2B i)):=by
 intro pins s σ H D I hq
 exact y0Q hc S hN hy hyl hi ⟨hg,ht,he⟩ hsw hs pins s σ H D I (z8B (by rw[hn,I.len]) hq)
end
end L2

/-! ### E10: arithmetic in short;a def that takes over its first argument;the law itself -/
namespace L2
open PySem PySem.Spec PyProof.Rows
section
variable{X:Cx}{a b:Expr}{pos:Pos}{f g:DE}
def y4z:D->D->Option D:=iop fun i j=>some (.int (i+j))
def subI:D->D->Option D:=iop fun i j=>some (.int (i - j))
def mulI:D->D->Option D:=iop fun i j=>if CMul i j then some (.int (i*j))else none
def y0h:D->D->Option D:=iop fun i j=>if CDiv i j then some (.int (i / j))else none
def z5M:D->D->Option D:=iop fun i j=>if 0<j then some (.int (i % j))else none
def ltI:D->D->Option D:=iop fun i j=>some (.bl (decide (i<j)))
def leI:D->D->Option D:=iop fun i j=>some (.bl (decide (i≤j)))
def gtI:D->D->Option D:=iop fun i j=>some (.bl (decide (j<i)))
def geI:D->D->Option D:=iop fun i j=>some (.bl (decide (j≤i)))
theorem z3N(ha:PD X a f)(hb:PD X b g):PD X (.BinOp a .Add b pos) (d2 y4z f g):=y3j op_add y2u ha hb
theorem y6m(ha:PD X a f)(hb:PD X b g):PD X (.BinOp a .Sub b pos) (d2 subI f g):=y3j op_sub y2u ha hb
theorem pd_mul(ha:PD X a f)(hb:PD X b g):PD X (.BinOp a .Mult b pos) (d2 mulI f g):=y3j op_mul y3y ha hb
theorem z6O(ha:PD X a f)(hb:PD X b g):PD X (.BinOp a .FloorDiv b pos) (d2 y0h f g):=y3j op_fdiv y3y ha hb
theorem z3s(ha:PD X a f)(hb:PD X b g):PD X (.BinOp a .Mod b pos) (d2 z5M f g):=y3j op_mod y3y ha hb
theorem y5p(hu:X.A.units+64<cLine)(ha:PD X a f)(hb:PD X b g):PD X (.Compare a [.Eq] [b] pos) (d2 eqD f g):=pd_cmp (y5T hu) o2_eq ha hb (z5s _)
theorem pt_lt(ha:PD X a f)(hb:PD X b g):PTD X (.Compare a [.Lt] [b] pos) (z1k (d2 ltI f g)):=z4E op_lt z4n ha hb (z5s _)
theorem pt_ge(ha:PD X a f)(hb:PD X b g):PTD X (.Compare a [.GtE] [b] pos) (z1k (d2 geI f g)):=z4E op_ge z4n ha hb (z5s _)
theorem y0O(hu:X.A.units+64<cLine)(ha:PD X a f)(hb:PD X b g):PTD X (.Compare a [.Eq] [b] pos) (z1k (d2 eqD f g)):=z4E (y5T hu) o2_eq ha hb (z5s _)
theorem z8a(hu:X.A.units+64<cLine)(ha:PD X a f)(hb:PD X b g):PTD X (.Compare a [.NotEq] [b] pos) (z1k (d2 neD f g)):=z4E (op_neD hu) o2_ne ha hb (z5s _)
theorem y6G(hu:X.A.units+64<cLine)(ha:PD X a f)(hb:PD X b g)(hm:dU .NotIn b=false:=by rfl):PTD X (.Compare a [.NotIn] [b] pos) (z1k (d2 ninD f g)):=z4E (op_ninD hu) o2_nin ha hb hm
end

/-! ### a def that takes over a list -/
section
end
/-! x=f(x,..): the owned list of slot i goes and comes -/
section
variable{F:List D->Option D}{fl:List DE}
def asgM(i:Nat)(F:List D->Option D)(fl:List DE):SS->Option Out:=fun δ=>(z0k fl (z0i δ)).bind fun args=>if z0L args=true then(match δ[i]? with
 |some (some (.ow d0))=>(F (d0::args)).map fun d=>.nx ((z0r i δ).set i (some (.ow d)))
 |_=>none)else none
end

/-! ### the law: a list of at most 63 ints is handed in,True comes out -/
def y5b(K:aa)(F:List D->Option D):Sp:=fun vs H Q _=>∃(a:Addr) (ns:List Int),vs=[.ref a]∧SqF K H a (ns.map V.int)∧F [.scr ns]=some (.bl true)∧∀H',Q (.bl true) H'
theorem y4X{K:aa}{H:Hp}{a:Addr}{xs:List V}(hO:Only H)(h:SqL K H a xs):SqF K H a xs:=by
 rcases h with (h | h) | h
 ·rcases hO a with z | ⟨o,ys,z⟩ <;> (rw[h]at z;cases z)
 ·exact .inl h
 ·exact .inr h
/-- the law's def,by its promise as a def -/
theorem law_of{P:dN}{w:dO}{K:aa}{mg:Str->Option Value}{base:Heap}{k:Nat}{f:Addr}{fd:dP}{ps:List Str}{F:List D->Option D}(h:FnOk P w K mg base CX0 k f fd ps (spN K F)):FnOk P w K mg base CX0 k f fd ps (y5b K F):=by
 refine h.imp fun vs H Q E z=>?_
 obtain⟨a,ns,rfl,hq,e,q⟩:=z
 refine⟨[.scr ns],.bl true,.cons ?_ .nil,e,fun v H' A s t nd fr=>?_⟩
 ·unfold Rep
  exact⟨a,rfl,hq⟩
 ·cases (show v=V.bl true∧_ from t).1
  exact q H'
end L2

/-! ### E11: a new list goes into an owned one -/
namespace L2
open PySem PySem.Spec PyProof.Rows
section
variable{X:Cx}{H0:Hp}{B0:Addr->Prop}{fr:Bool}{RX:XR}{e e2:Expr}{pos ap cp:Pos}{x:Str}{px:Pos}{f g:DE}
def z7P(i:Nat)(f:DE):SS->Option Out:=fun δ=>(f (z0i δ)).bind fun d=>(match δ[i]? with
 |some (some (.ow (.lst ds)))=>(z8H ds [d]).map fun ds'=>.nx ((z0r i δ).set i (some (.ow (.lst ds'))))
 |_=>none)
def ins0N(i:Nat)(f g:DE):SS->Option Out:=fun δ=>(f (z0i δ)).bind fun k=>if k.imm=true then(g (z0i δ)).bind fun d=>(match δ[i]? with
 |some (some (.ow (.lst ds)))=>(y2y ds [k,d]).map fun ds'=>.nx ((z0r i δ).set i (some (.ow (.lst ds'))))
 |_=>none)else none
theorem z4v{i:Nat}(hx:PE X (.Name x px) (z5m i))(he:PN X e f)(hbase:dS (.Name x px) "append" X.env (eval (.Name x px) X.env)=eval (.Name x px) X.env:=by rfl)
  (hfew:((dY cp (starEach [e] X.env)).all (fun x=>!x.1)&&(backToKw cp (keywordEach [] X.env)).all (fun x=>x.1.isSome)&&decide ([e].length+([]:List d3).length+(if([]:List d3).isEmpty then 0 else 1)<30))=true:=by rfl)
  (hline:(ap.endLine==cp.line)=true:=by rfl) (hs:starEach [e] X.env=(false,eval e X.env)::starEach [] X.env:=by rfl) (hsw:swapsWith (.Call (.Attribute (.Name x px) "append" ap) [e] [] cp) none pos.line X.env=pure false:=by rfl):
  PS X (.Expr (.Call (.Attribute (.Name x px) "append" ap) [e] [] cp) pos) (tS X.K H0 B0 fr RX (z7P i f)):=
 PS.imp (z2P (y3L PySem.F.plainAttrs_list PySem.F.slot_list_append PySem.F.type_list_append z4X hx (z1v he pa_nil hs) hbase hfew hline hs rfl) hsw) fun D σ H ⟨δ,R,o,rs,q,k⟩=>by
  unfold z7P at q
  cases e1:f (z0i δ)with
  |none=>rw[e1]at q;cases q
  |some d=>
  rw[e1]at q
  simp only[af]at q
  split at q
  case h_2=>cases q
  case h_1=>
  rename_i ds ei
  cases e2:z8H ds [d]with
  |none=>rw[e2]at q;cases q
  |some ds'=>
  rw[e2]at q
  cases q
  obtain⟨a,xs,A,ev,ha,ts,eR,nd⟩:=rs.top ei
  refine⟨.ref a,ev,.inl ⟨rfl,xs,SqL.of ha⟩,z0i δ,d,rs.all,e1,fun y H2 C s2 t2 nC fC=>?_⟩
  show z7X (.ref a) [y] H2 fun _ H1=>D.nx σ H1
  refine y4q (K:=X.K) H2 a xs ds [d] [y] ds' _ (s2 _ _ ha) ts.length (.one (t2.rep d (fun _ _ z=>z.elim))) e2 fun w xs' up=>?_
  obtain⟨A',t',n',sub⟩:=up H2 A C (ts.mono s2) (.one t2)
  have hAC:(A++C).Nodup:=ay.mpr ⟨(am.mp nd).2,nC,fun b hb c hc z=>by
   subst z
   obtain⟨u,q,_⟩:=Trees.held ds ts b hb
   rw[fC b hc]at q;cases q⟩
  have P:=rs.put0 s2 ei ev eR nd t' (n' hAC) fun b hb=>(sub b hb).imp id fun z=>fC b z
  exact k σ _ _ P.1 P.2
end
end L2

/-! ### E12: tuple.index -/
namespace L2
open PySem PySem.Spec PyProof.Rows
open PySem.MeetsSeq PySem.MeetsSeq2 PySem.MeetsSeq3 PySem.SeqRoads2 PySem.SeqAt
open PySem.AutoSeq1 (wpAny_loadPart')
section
variable{X:Cx}
theorem Inv.tupleO{pins:List (Addr×Obj)}{σ:St}{H:Hp}{s:dw}{a:Addr}{xs:List V}(I:Inv X pins σ H s)(h:SqT X.K H a xs):∃(its:List Value) (ob:Obj) (n:Nat),Vals xs its∧s.heap.get? a=some ob∧ob.cls = .type "tuple" ∧ ob.dict=none∧ob.data = .seq its.toArray n∧xs.length≤sizeLine:=by
 rcases h with h | ⟨o,its,n,hk,hc,hs,hz,r⟩
 ·obtain⟨z,its,r,ob,e,c,n,hd⟩:=h.ok I.hok
  exact⟨its,ob,n,r,e,c.1,c.2,hd,z⟩
 ·refine⟨its.toList,o,n,r,I.kIn a o hk,hc.1,hc.2,by simpa using hs,?_⟩
  have e:=r.length
  simp only[bY]at e
  omega
end
end L2

/-! ### E13: tuple(range(..)),list(range(..)),int(..) -/
namespace L2
open PySem PySem.Spec PyProof.Rows
open PySem.AutoSeq1 (wpAny_loadPart')
section
end
/-! range(..) as a value -/
section
/-! as trees -/
def y7E(g:DS->Option (List D)):DS->Option (List D):=fun δ=>(g δ).bind fun ds=>if ds.length≤sizeLine then some ds else none
/-- int(x) -/
def intF:List D->Option D
 |[.int i]=>some (.int i)
 |[.bl k]=>some (.int (if k then 1 else 0))
 |_=>none
end
end L2

/-! ### E14: enumerate(xs),its pairs taken apart at once -/
namespace L2
open PySem PySem.Spec PyProof.Rows
section
variable{X:Cx}{pins:List (Addr×Obj)}{σ:St}{H:Hp}{s:dw}{h':Heap}
theorem Inv.turnedL{t':Nat}{fp:List Addr}(I:Inv X pins σ H s)(k:∀b o,b∉fp->s.heap.get? b=some o->h'.get? b=some o)(hf:∀b∈fp,z7x X pins H b):Inv X pins σ H { s with heap:=h',toks:=t' }:=by
 have nit:∀b u,H b=some u->b∉fp:=fun b u e z=>by rw[(hf b z).1]at e;cases e
 have nL:X.env.locals∉fp:=fun z=>(hf _ z).2.1 rfl
 refine I.step (g':=s.gens) (d':=s.drawn) (ch:=fp) (fun b hb=>?_) (fun b o _ _ hc e _=>k b o hc e) (fun b o _ _ hc e _=>⟨o.slots,k b o hc e⟩) (fun _ _ _ _ n=>n)
  (fun b o hc e=>⟨o,k b o hc e⟩) (fun _ _ e=>e) (fun _ _ _ e=>e) (fun b ps e=>⟨#[],by rw[e];simp⟩) (fun m hm=>?_) (fun b u e=>?_) I.bare
 ·obtain⟨f0,f1,f2,f3,f4,f5⟩:=hf b hb
  exact⟨f3,f1,f4,f5⟩
 ·obtain⟨o,es,ep,ho,r⟩:=hm
  exact⟨o,es,ep,k _ o nL ho,r⟩
 ·refine(I.hok b u e).stay (fun c v hc q=>k c v ?_ q) (fun _ q=>q) fun _ _ q=>q
  rcases hc with z | z
  ·rw[z];exact nit b u e
  ·exact nit c _ z
/-- (0,first),(1,second),.. of the list at a -/
def Ite(K:aa)(a:Addr):It:=
 ⟨fun i H=>∃xs x,SqL K H a xs∧xs[i]? = some x,fun i H v H'=>∃p x,H p=none∧v = .ref p∧H'=upd H p (.tup [.int (i:Nat),x])∧∀xs,SqL K H a xs->xs[i]? = some x,fun i H=>∃xs,SqL K H a xs∧xs.length≤i⟩
theorem y3X{P:dN}{w:dO}{K:aa}{elts:List Expr}{x1}{tp:Pos}(a e it:Addr)(hne:e≠it):
  Turn P w K (.Tuple elts x1 tp) (Ite K a) [e,it] e (fun i h=>(∃old,IsEnum h e it ((i:Nat):Int) old)∧h.IsListIter it a i) where
 mem:=by simp
 obj:=fun i h st b hb=>by
  obtain⟨⟨old,he⟩,o,eo,c,d⟩:=st
  rcases aq.mp hb with z | z
  ·subst z
   exact⟨_,he,fun v z=>by cases z⟩
  ·have z:b=it:=by simpa using z
   subst z
   exact⟨o,eo,fun v z=>by rw[d]at z;cases z⟩
 keep:=fun i h h' st k=>by
  obtain⟨⟨old,he⟩,hi⟩:=st
  exact⟨⟨old,k e (by simp) _ he⟩,hi.at fun o q=>k it (by simp) o q⟩
 item:=by
  intro X hP hw hK hc i pins s σ H E I hf st hg
  subst hP hw hK
  obtain⟨xs,x,hq,hx⟩:=hg
  obtain⟨its,rv,p,hz⟩:=I.list hq
  obtain⟨u,hu,ru⟩:=rv.get hx
  obtain⟨⟨old,he⟩,hi⟩:=st
  refine wpAny_pyNext_enum_item he hi p.isList (x:=u) (by simpa using hu) hne fun h1 heo hi1 ht1 hz1 hk1=>⟨_,rfl,?_⟩
  refine wpAny_letOwnedTupleGo_enum heo fun h2 he2 hs2=>?_
  have hs2:Heap.SameBut e h1 h2:=hs2
  have elt:e<s.heap.objs.size:=Heap.lt_size he
  obtain⟨oi,eoi,_⟩:=id hi
  have ilt:it<s.heap.objs.size:=Heap.lt_size eoi
  have hp:H s.heap.objs.size=none:=I.hok.fresh (ak _)
  have I1:Inv X pins σ (upd H s.heap.objs.size (.tup [.int (i:Nat),x])) { s with heap:=s.heap.push { cls:=.type "tuple",data:=.seq #[.int (i:Nat) s.toks,u] },toks:=s.toks+1 }:=
   I.laid (fun b o q=>Heap.get?_push_of_some _ q) (ak _) (show ObjOk X.prog X.w _ _ _ (.tup [.int (i:Nat),x]) from⟨by show 2≤sizeLine;rw[sizeLine_eq];decide,[.int (i:Nat) s.toks,u],.cons ⟨_,rfl⟩ (.cons ru .nil),TupN.new _ _⟩)
  have hf1:∀b∈[e,it],z7x X pins (upd H s.heap.objs.size (.tup [.int (i:Nat),x])) b:=fun b hb=>by
   obtain⟨f0,f⟩:=hf b hb
   refine⟨?_,f⟩
   have:b≠s.heap.objs.size:=by
    rcases aq.mp hb with z | z
    ·rw[z];exact ax elt
    ·have z:b=it:=by simpa using z
     rw[z];exact ax ilt
   rw[z0n this]
   exact f0
  have kk:∀b o,b∉[e,it]->(s.heap.push { cls:=.type "tuple",data:=.seq #[.int (i:Nat) s.toks,u] }).get? b=some o->h2.get? b=some o:=by
   intro b o hb q
   have hbe:b≠e:=fun z=>hb (by simp[z])
   have hbi:b≠it:=fun z=>hb (by simp[z])
   rw[hs2.2 b hbe]
   by_cases hbs:b=s.heap.objs.size
   ·subst hbs
    rw[ht1]
    have:(s.heap.push { cls:=.type "tuple",data:=.seq #[.int (i:Nat) s.toks,u] }).get? s.heap.objs.size=some { cls:=.type "tuple",data:=.seq #[.int (i:Nat) s.toks,u] }:=Heap.get?_push_size _ rfl
    exact this.symm.trans q
   ·have q':s.heap.get? b=some o:=(Heap.get?_push_ne s.heap _ _ hbs).symm.trans q
    exact hk1 b o hbe hbi q'
  have I2:Inv X pins σ (upd H s.heap.objs.size (.tup [.int (i:Nat),x])) { s with heap:=h2,toks:=s.toks+1 }:=Inv.turnedL (s:={ s with heap:=s.heap.push { cls:=.type "tuple",data:=.seq #[.int (i:Nat) s.toks,u] },toks:=s.toks+1 }) (h':=h2) (t':=s.toks+1) (fp:=[e,it]) I1 kk hf1
  refine⟨.ref s.heap.objs.size,_,I2,rfl,⟨_,x,hp,rfl,rfl,fun ys hy=>by rw[I.list_inj hy hq];exact hx⟩,⟨⟨u,?_⟩,?_⟩,fun b hb=>(hf1 b hb).1⟩
  ·have:(((i+1:Nat):Int))=((i:Int)+1):=by omega
   rw[this]
   exact he2
  ·exact hi1.at fun o q=>(hs2.2 it (Ne.symm hne)).trans q
 done:=by
  intro X hP hw hK hc i pins s σ H E I hf st hg
  subst hP hw hK
  obtain⟨xs,hq,hx⟩:=hg
  obtain⟨its,rv,p,hz⟩:=I.list hq
  obtain⟨⟨old,he⟩,hi⟩:=st
  have hl:=rv.length
  exact wpAny_pyNext_enum_end (I.ok.hd hc) he hi p.isList (by simp;omega) fun h' eb=>⟨rfl,I.turnedL (t':=s.toks) (fp:=[e,it]) (fun b o hb q=>eb b o (fun z=>hb (by simp[z])) q) hf⟩
 self:=fun _ _ _ _ _ st h=>let⟨⟨_,he⟩,_⟩:=st;wpAny_pyIter_enum he h
def iEnum(K:aa)(tl:TE):TI:=fun σ H R=>tl σ H fun x H1=>∃a,[x]=[V.ref a]∧(∃xs,SqL K H1 a xs)∧R (Ite K a) H1
theorem pi_enum{elts:List Expr}{x1}{tp p pos:Pos}{l:Expr}{tl:TE}(hg:Gl X "enumerate")(hm:X.mg "enumerate" = none)(hl:PE X l tl)(hs:starEach [l] X.env=[(false,eval l X.env)]:=by rfl):
  PI X (.Tuple elts x1 tp) (.Call (.Name "enumerate" p) [l] [] pos) (iEnum X.K tl):=by
 intro pins s σ H R I h
 have hA:PA X [l] (fun σ H Q=>tl σ H fun x H1=>Q [x] H1):=(z1v hl pa_nil (by rw[hs];rfl)).imp fun σ H Q q=>q
 refine wpAny_Call_Name_kw (z5x I hg hm boot_enumerate (PyProof.Rows.callWith_type1 (thn (hA pos pins s σ H (fun vs H1=>∃a,vs=[V.ref a]∧(∃xs,SqL X.K H1 a xs)∧R (Ite X.K a) H1) I h) fun us s1 ⟨vs,H1,I1,r1,q1⟩=>?_) hs rfl))
 obtain⟨a,rfl,⟨xs,hq⟩,q⟩:=q1
 obtain⟨u,rfl,ru⟩:=r1.one
 cases ru
 obtain⟨its,rv,pl,hz⟩:=I1.list hq
 refine call_enumerate_list pl.isList fun h1 he hi hsz kp=>?_
 refine wpAny_pyIter_enum he ?_
 have I2:Inv X pins σ H1 { s1 with heap:=h1 }:=I1.kept (t':=s1.toks) kp
 refine⟨s1.heap.objs.size+1,[s1.heap.objs.size+1,s1.heap.objs.size],_,_,H1,rfl,I2,y3X a _ _ (Nat.succ_ne_self _),⟨⟨_,he⟩,hi⟩,fun b hb=>?_,q⟩
 have hb':s1.heap.objs.size≤b:=by
  rcases aq.mp hb with z | z
  ·rw[z];exact Nat.le_succ _
  ·have z:b=s1.heap.objs.size:=by simpa using z
   rw[z];exact ak _
 exact I1.fpOk hb' (I1.hok.fresh hb')
end
/-! as trees -/
def z0G(k:Nat):List D->List D
 |[]=>[]
 |d::r=>.tup [.int (k:Nat),d]::z0G (k+1) r
theorem z8q:∀{ds:List D} {k i:Nat},(z0G k ds)[i]? = (ds[i]?).map fun d=>.tup [.int ((k+i:Nat):Int),d]
 |[],_,_=>by simp[z0G]
 |d::r,k,0=>by simp[z0G]
 |d::r,k,i+1=>by
  show(z0G (k+1) r)[i]? = (r[i]?).map _
  rw[z8q]
  congr 1
  funext d
  congr 3
  omega
theorem z6m:∀{ds:List D} {k:Nat},(z0G k ds).length=ds.length
 |[],_=>rfl
 |d::r,k=>by show(z0G (k+1) r).length+1=r.length+1;rw[z6m]
theorem z8s{K:aa}{H:Hp}{B:Addr->Prop}{a:Addr}{xs:List V}{ds:List D}(hs:∀H',Keep K B H H'->SqL K H' a xs)(r:Reps K H B ds xs):ItD K (Ite K a) H B (z0G 0 ds):=by
 have hl:=r.length
 refine⟨fun i H' kp hi=>?_,fun i H' kp hi=>?_,fun i H' v H2 kp hy=>?_⟩
 ·rw[z6m,hl]at hi
  exact⟨xs,xs[i],hs H' kp,ae hi⟩
 ·rw[z6m,hl]at hi
  exact⟨xs,hs H' kp,hi⟩
 ·obtain⟨p,x,hp,rfl,rfl,hx⟩:=hy
  have hx:=hx xs (hs H' kp)
  obtain⟨d,e,rd⟩:=(Reps.keep kp ds r).get' hx
  refine⟨z0t hp,.tup [.int (i:Nat),d],fun _=>by rw[z8q,e];simp,?_⟩
  unfold Rep
  exact⟨p,_,rfl,SqT.of z0s,.cons (by unfold Rep;rfl) (.one (rd.mono (z0t hp)))⟩
def y0c:D->Option (List D)
 |.lst ds=>some (z0G 0 ds)
 |.scr ns=>some (z0G 0 (ns.map .int))
 |_=>none
def y1O(f:DE):DS->Option (List D):=fun δ=>(f δ).bind y0c
section
variable{X:Cx}
theorem z9r{elts:List Expr}{x1}{tp p pos:Pos}{l:Expr}{f:DE}(hg:Gl X "enumerate")(hm:X.mg "enumerate" = none)(h:PD X l f)(hs:starEach [l] X.env=[(false,eval l X.env)]:=by rfl):
  PID X (.Tuple elts x1 tp) (.Call (.Name "enumerate" p) [l] [] pos) (y1O f):=(pi_enum hg hm h hs).imp fun σ H R ⟨B,δ,ds,hB,S,q,k⟩=>by
 unfold y1O at q
 cases e:f δ with
 |none=>rw[e]at q;cases q
 |some d=>
  rw[e]at q
  have q':y0c d=some ds:=q
  refine⟨B,δ,d,hB,S,e,fun v H1 s1 r1=>?_⟩
  unfold y0c at q'
  split at q'
  ·cases q'
   unfold Rep at r1
   obtain⟨a,xs,rfl,n,h,r⟩:=r1
   refine⟨a,rfl,⟨xs,SqL.of h⟩,k _ H1 s1 fun C hC=>?_⟩
   have na:¬ (B a∨C a):=fun z=>z.elim n fun z=>by rw[hC a z]at h;cases h
   exact z8s (xs:=xs) (fun H' kp=>SqL.of (kp.sl a xs na h)) (Reps.wide hC _ r)
  ·cases q'
   unfold Rep at r1
   obtain⟨a,rfl,h⟩:=r1
   exact⟨a,rfl,⟨_,h.sq⟩,k _ H1 s1 fun C hC=>z8s (fun H' kp=>(kp.sf a _ h).sq) (z2a _)⟩
  ·cases q'
/-! [elt for a,b in iter if c] -/
def two(h:D->D->Option (Option D)):D->Option (Option D)
 |.tup [a,b]=>h a b
 |_=>none
def compG(fc:DS->Option Bool)(fe:DE)(δ:DS):D->D->Option (Option D):=fun a b=>(fc (δ++[some a,some b])).bind fun k=>if k=true then(fe (δ++[some a,some b])).map some else some none
def y7o(fi:DS->Option (List D))(fc:DS->Option Bool)(fe:DE):DS->Option (List D):=fun δ=>(fi δ).bind fun xs=>if xs.length≤sizeLine then z1V (two (compG fc fe δ)) xs else none
end
end L2

/-! ### E15: dicts by ints and texts,with items that cannot change -/
namespace L2
open PySem PySem.Spec PyProof.Rows
def z7Z:D->Option Key
 |.int n=>some (.inl n)
 |.str x=>some (.inr x)
 |_=>none
theorem y1G{K:aa}{H:Hp}{B:Addr->Prop}{d:D}{k:Key}{v:V}(e:z7Z d=some k)(r:Rep K H B d v):v=kV k:=by
 unfold z7Z at e
 split at e
 ·cases e;unfold Rep at r;exact r
 ·cases e;unfold Rep at r;exact r
 ·cases e
def setK(ks:List Key)(ds:List D)(k:Key)(d:D):List D:=match ks,ds with
 |k'::ks,e::ds=>(if k'=k then d else e)::setK ks ds k d
 |_,_=>[]
def z9h(ks:List Key)(k:Key):Bool:=ks.any fun k'=>decide (k'=k)
def z7Q(ks:List Key)(k:Key):List Key:=if z9h ks k=true then ks else ks++[k]
def z7J(ks:List Key)(ds:List D)(k:Key)(d:D):List D:=if z9h ks k=true then setK ks ds k d else ds++[d]
theorem z7I{k:Key}{kvs:List (Key×V)}{ks:List Key}(e:kvs.map (·.1)=ks):(kvs.any fun kv=>decide (kv.1=k))=z9h ks k:=by
 subst e
 unfold z9h
 rw[cw]
 rfl
theorem z8A{K:aa}{H:Hp}{k:Key}{d:D}{v:V}(td:Tree K H d v []):∀{kvs:List (Key×V)} {ds:List D},Trees K H ds (kvs.map (·.2)) []->Trees K H (setK (kvs.map (·.1)) ds k d) ((kvs.map fun kv=>if kv.1=k then(kv.1,v)else kv).map (·.2)) []
 |[],ds,t=>by
  cases ds with
  |nil=>exact .nil
  |cons e ds=>unfold Trees at t;obtain⟨_,_,_,_,z,_⟩:=t;cases z
 |p::r,[],t=>by obtain⟨z,_⟩:=t;cases z
 |p::r,e::ds,t=>by
  unfold Trees at t
  obtain⟨x,xs,B,C,e1,t1,t2,e2⟩:=t
  cases e1
  obtain⟨rfl,rfl⟩:=List.append_eq_nil_iff.mp e2.symm
  have ih:=z8A (k:=k) td (kvs:=r) t2
  rw[aO,aO,aO]
  unfold setK Trees
  refine⟨_,_,[],[],rfl,?_,ih,rfl⟩
  by_cases h:p.1=k
  ·rw[if_pos h,if_pos h];exact td
  ·rw[if_neg h,if_neg h];exact t1
theorem y5g{k:Key}{v:V}{kvs:List (Key×V)}:(z6A kvs k v).map (·.1)=z7Q (kvs.map (·.1)) k:=by
 unfold z6A z7Q
 rw[z7I (k:=k) (kvs:=kvs) rfl]
 by_cases h:z9h (kvs.map (·.1)) k=true
 ·rw[if_pos h,if_pos h,aJ]
  apply cH
  intro p _
  show(if p.1=k then(p.1,v)else p).1=p.1
  split <;> rfl
 ·rw[if_neg h,if_neg h,aT]
  rfl
theorem y4Z{K:aa}{H:Hp}{k:Key}{d:D}{v:V}{kvs:List (Key×V)}{ds:List D}(td:Tree K H d v [])(t:Trees K H ds (kvs.map (·.2)) []):Trees K H (z7J (kvs.map (·.1)) ds k d) ((z6A kvs k v).map (·.2)) []:=by
 unfold z6A z7J
 rw[z7I (k:=k) (kvs:=kvs) rfl]
 by_cases h:z9h (kvs.map (·.1)) k=true
 ·rw[if_pos h,if_pos h]
  exact z8A td t
 ·rw[if_neg h,if_neg h,aT]
  exact t.snoc td
theorem y5D{k:Key}{kvs:List (Key×V)}:(z8l kvs k).isSome=z9h (kvs.map (·.1)) k:=by rw[←z5J];exact z7I rfl
/-! rules -/
def inK:D->D->Option Bool:=fun x y=>match y with
 |.dct ks _=>(z7Z x).map fun k=>z9h ks k
 |_=>none
def y4R(f g:DE):DS->Option Bool:=fun δ=>(f δ).bind fun x=>(g δ).bind fun y=>inK x y
def dDNin(f g:DE):DS->Option Bool:=fun δ=>(y4R f g δ).map (!·)
section
variable{X:Cx}{a b o i:Expr}{f g:DE}{pos pos':Pos}
theorem y5F{δ:DS}{c:Bool}(h:y4R f g δ=some c):∃x k ks ds,f δ=some x∧z7Z x=some k∧g δ=some (.dct ks ds)∧c=z9h ks k:=by
 unfold y4R at h
 cases e1:f δ with
 |none=>rw[e1]at h;cases h
 |some x=>
  rw[e1]at h
  cases e2:g δ with
  |none=>rw[e2]at h;cases h
  |some y=>
   rw[e2]at h
   have h:inK x y=some c:=h
   unfold inK at h
   split at h
   ·cases e3:z7Z x with
    |none=>rw[e3]at h;cases h
    |some k=>rw[e3]at h;cases h;exact⟨x,k,_,_,rfl,e3,rfl,rfl⟩
   ·cases h
theorem pt_din(hu:X.A.units+64<cLine)(ha:PD X a f)(hb:PD X b g)(hm:dU .In b=false:=by rfl):PTD X (.Compare a [.In] [b] pos) (y4R f g):=
 (pt_cmp (pc_din (by omega) ha hb) hm).imp fun σ H Q ⟨B,δ,c,hB,S,q,k⟩=>by
  obtain⟨x,ky,ks,ds,e1,e2,e3,rfl⟩:=y5F q
  refine⟨B,δ,x,hB,S,e1,fun v H1 s1 r1=>⟨B,δ,_,hB.mono s1,S.mono s1,e3,fun w H2 s2 r2=>?_⟩⟩
  unfold Rep at r2
  obtain⟨p,kvs,rfl,n,hp,ek,rs⟩:=r2
  have ev:=y1G e2 r1
  subst ev
  refine⟨p,z8l kvs ky,rfl,DGet.k hp,_,rfl,?_⟩
  rw[y5D,ek]
  exact k H2 (s1.trans s2)
theorem pn_dnew:PN X (.Dict [] [] pos) (dC (.dct [] [])):=pe_dnewK.imp fun σ H Q ⟨δ,d,S,q,k⟩=>by
 cases q
 intro p hp
 refine k _ _ [p] (z0t hp) ?_ (am.mpr ⟨fun z=>(nomatch z),aY⟩) fun a ha=>?_
 ·unfold Tree
  exact⟨p,[],[],rfl,z0s,rfl,.nil,rfl⟩
 ·rw[aS.mp ha];exact hp
variable{H0:Hp}{B0:Addr->Prop}{fr:Bool}{RX:XR}{x:Str}{px:Pos}{ke e:Expr}
def dput(i:Nat)(fk fv:DE):SS->Option Out:=fun δ=>(fv (z0i δ)).bind fun d=>if d.imm=true then(fk (z0i δ)).bind fun dk=>(match z7Z dk,δ[i]? with
 |some k,some (some (.ow (.dct ks ds)))=>if z0L ds=true∧ks.length<sizeLine then some (.nx ((z0r i δ).set i (some (.ow (.dct (z7Q ks k) (z7J ks ds k d))))))else none
 |_,_=>none)else none
theorem y1B{K:aa}{H:Hp}{ds:List D}{xs:List V}{A:List Addr}(t:Trees K H ds xs A)(h:z0L ds=true):Trees K H ds xs []:=Reps.immTree (B:=fun _=>False) ds h (t.rep ds fun _ _ z=>z)
theorem s_dput{i:Nat}{fk fv:DE}(hu:X.A.units+64<cLine)(hx:PE X (.Name x px) (z5m i))(hk:PD X ke fk)(hv:PD X e fv)
  (hs:swapsWith e (some (.Subscript (.Name x px) ke pos')) pos.line X.env=pure false:=by rfl):
  PS X (.Assign [.Subscript (.Name x px) ke pos'] e pos) (tS X.K H0 B0 fr RX (dput i fk fv)):=
 PS.imp (ps_dput (by omega) hx hk hv hs) fun D σ H ⟨δ,R,o,rs,q,kk⟩=>by
  unfold dput at q
  cases e1:fv (z0i δ)with
  |none=>rw[e1]at q;cases q
  |some d=>
  rw[e1,af]at q
  split at q
  case isFalse=>cases q
  case isTrue hi=>
  cases e2:fk (z0i δ)with
  |none=>rw[e2]at q;cases q
  |some dk=>
  rw[e2,af]at q
  split at q
  case h_2=>cases q
  case h_1 k ks ds e3 ei=>
  split at q
  case isFalse=>cases q
  case isTrue hc=>
  cases q
  obtain⟨v0,ev,t0,nd⟩:=rs.ow i _ ei
  unfold Tree at t0
  obtain⟨a,kvs,A,rfl,ha,ek,ts,eR⟩:=t0
  have ts:=y1B ts hc.1
  refine⟨noB,z0i δ,d,.no,rs.all,e1,fun v H1 s1 r1=>⟨.ref a,ev,noB,z0i δ,dk,.no,rs.all.mono s1,e2,fun kv H2 s2 r2=>?_⟩⟩
  have ekv:=y1G e3 r2
  subst ekv
  subst ek
  have ha2:H2 a=some (.dK kvs):=s2 _ _ (s1 _ _ ha)
  refine⟨a,_,rfl,DPut.k ha2 (by rw[←ah (f:=(·.1))];exact hc.2),?_⟩
  have haR:a∈R i:=by rw[eR];exact ag
  have mu:Mut (H2 a):=by rw[ha2];exact trivial
  have td:Tree X.K H2 d v []:=(r1.immTree d hi).mono s2
  have tp:=y4Z (k:=k) td (ts.mono (s1.trans s2))
  have P:=rs.rewrite (d':=.dct (z7Q (kvs.map (·.1)) k) (z7J (kvs.map (·.1)) ds k d)) (a:=a) (o:=.dK (z6A kvs k v)) (A':=[a]) (s1.trans s2) ei ev haR (by
   unfold Tree
   exact⟨a,z6A kvs k v,[],rfl,z0s,y5g,Trees.keep (Keep.upd (K:=X.K) (B:=fun x=>x=a) rfl mu).i _ tp fun b hb=>(nomatch hb),rfl⟩) (am.mpr ⟨fun z=>(nomatch z),aY⟩) fun b hb=>by
    rw[aS.mp hb];exact .inl haR
  exact kk σ _ _ P.1 P.2
end
end L2

/-! ### E16: x[::-1],lists put together,list.index,max,min -/
namespace HT
open PySem PySem.Spec PyProof.Rows
section
end
end HT
namespace L2
open PySem PySem.Spec PyProof.Rows
section
variable{X:Cx}{e st:Expr}{te:TE}{tk:TO}{pos p2:Pos}
def tRev(r:V->Hp->VK->Prop)(te:TE)(tk:TO):TE:=fun σ H Q=>te σ H fun x H1=>tk σ H1 fun k H2=>k=some (-1)∧r x H2 Q
def rRevL(K:aa):V->Hp->VK->Prop:=fun x H Q=>∃a xs,x = .ref a∧SqL K H a xs∧∀p,H p=none->Q (.ref p) (upd H p (.lst xs.reverse))
theorem pe_revL(he:PE X e te)(hk:PO X (some st) tk)(hsub:∀v u,subscripted (.Slice none none (some st) p2) false v u=operate [v,u] (getItem v u):=by intro _ _;rfl):PE X (.Subscript e (.Slice none none (some st) p2) pos) (tRev (rRevL X.K) te tk):=by
 intro pins s σ H Q I h
 refine Subscript_ (thn (he pins s σ H _ I h) fun v s1 ⟨x,H1,I1,r1,q1⟩=>?_)
 refine wpAny_Slice ?_
 rw[evalPart_none]
 refine wpAny_pure (wpAny_pure (thn (hk pins s1 σ H1 _ I1 q1) fun vk s2 ⟨k,H2,I2,pk,ek,q2⟩=>?_))
 subst ek
 obtain⟨a,xs,rfl,hq,q⟩:=q2
 cases r1
 have I4:Inv X pins σ H2 { s2 with heap:=s2.heap.push { cls:=.type "slice",data:=.fields #[.none,.none,vk] } }:=I2.kept (t':=s2.toks) fun b ob q=>Heap.get?_push_of_some _ q
 obtain⟨its,r,pl,hz⟩:=I4.list hq
 have hlen:=r.length
 refine tail_any (ops:=[.ref a,.ref s2.heap.objs.size]) pl.isList.typeIs list_getitem_lookup ?_ (hsub _ _)
 refine wpAny_getItem_list_slice pl.isList (Heap.IsSliceOf.new ..) .none .none pk (by decide) ?_ (by simp only[ai] <;> omega)
 rw[PySem.W.krv_pick]
 exact⟨.ref _,_,I4.lnew (t':=s2.toks) (by simpa using r.reverse) (by rw[cI];exact hz),rfl,q _ I4.fresh⟩
theorem Reps.reverse{K:aa}{H:Hp}{B:Addr->Prop}:∀{ds:List D} {xs:List V},Reps K H B ds xs->Reps K H B ds.reverse xs.reverse
 |[],_,h=>by unfold Reps at h;subst h;exact .nil
 |d::ds,_,h=>by
  unfold Reps at h
  obtain⟨x,r,rfl,h1,h2⟩:=h
  rw[cf,cf]
  exact(Reps.reverse h2).snoc h1
def revT:D->D->Option D
 |.tup ds,.int k=>if k = -1 then some (.tup ds.reverse)else none
 |_,_=>none
def revLs:D->D->Option (List D)
 |.lst ds,.int k=>if k = -1 then some ds.reverse else none
 |.scr ns,.int k=>if k = -1 then some (ns.map D.int).reverse else none
 |_,_=>none
def z6L(f g:DE):DS->Option (List D):=fun δ=>(f δ).bind fun x=>(g δ).bind fun y=>revLs x y
variable{f g:DE}
theorem z7D(he:PD X e f)(hk:PD X st g)(hsub:∀v u,subscripted (.Slice none none (some st) p2) false v u=operate [v,u] (getItem v u):=by intro _ _;rfl):PF X (.Subscript e (.Slice none none (some st) p2) pos) (z6L f g):=
 (pe_revL he (y1l hk) hsub).imp fun σ H Q ⟨B,δ,ds,hB,S,q,k⟩=>by
  unfold z6L at q
  cases e1:f δ with
  |none=>rw[e1]at q;cases q
  |some x=>
  rw[e1,af]at q
  cases e2:g δ with
  |none=>rw[e2]at q;cases q
  |some y=>
  rw[e2,af]at q
  unfold revLs at q
  split at q
  case h_3=>cases q
  case h_1 es j=>
   split at q
   case isFalse=>cases q
   case isTrue hj=>
   cases q
   refine⟨B,δ,_,hB,S,e1,fun v H1 s1 r1=>⟨B,δ,_,hB.mono s1,S.mono s1,e2,fun v2 H2 s2 r2=>?_⟩⟩
   unfold Rep at r2
   subst r2
   unfold Rep at r1
   obtain⟨a,xs,rfl,n,hq,rs⟩:=r1
   refine⟨j,rfl,by rw[hj],a,xs,rfl,SqL.of (s2 _ _ hq),fun p hp=>?_⟩
   exact k p _ _ ((s1.trans s2).trans (z0t hp)) ((s1.trans s2).free hp) z0s ((rs.reverse.mono s2).mono (z0t hp))
  case h_2 ns j=>
   split at q
   case isFalse=>cases q
   case isTrue hj=>
   cases q
   refine⟨B,δ,_,hB,S,e1,fun v H1 s1 r1=>⟨B,δ,_,hB.mono s1,S.mono s1,e2,fun v2 H2 s2 r2=>?_⟩⟩
   unfold Rep at r2
   subst r2
   unfold Rep at r1
   obtain⟨a,rfl,hq⟩:=r1
   refine⟨j,rfl,by rw[hj],a,_,rfl,(s2.sf hq).sq,fun p hp=>?_⟩
   exact k p _ _ ((s1.trans s2).trans (z0t hp)) ((s1.trans s2).free hp) z0s (z2a ns).reverse
/-! lists put together -/
variable{a b:Expr}
def catLs:D->D->Option (List D)
 |.lst ds,.lst es=>if ds.length+es.length≤sizeLine then some (ds++es)else none
 |_,_=>none
def dCat(f g:DE):DS->Option (List D):=fun δ=>(f δ).bind fun x=>(g δ).bind fun y=>catLs x y
theorem pf_cat(ha:PD X a f)(hb:PD X b g):PF X (.BinOp a .Add b pos) (dCat f g):=(pe_op op_cat ha hb).imp fun σ H Q ⟨B,δ,ds,hB,S,q,k⟩=>by
 unfold dCat at q
 cases e1:f δ with
 |none=>rw[e1]at q;cases q
 |some x=>
 rw[e1,af]at q
 cases e2:g δ with
 |none=>rw[e2]at q;cases q
 |some y=>
 rw[e2,af]at q
 unfold catLs at q
 split at q
 case h_2=>cases q
 case h_1 xs ys=>
 split at q
 case isFalse=>cases q
 case isTrue hl=>
 cases q
 refine⟨B,δ,_,hB,S,e1,fun v H1 s1 r1=>⟨B,δ,_,hB.mono s1,S.mono s1,e2,fun v2 H2 s2 r2=>?_⟩⟩
 unfold Rep at r1 r2
 obtain⟨p1,vs,rfl,n1,h1,rs1⟩:=r1
 obtain⟨p2,ws,rfl,n2,h2,rs2⟩:=r2
 refine⟨p1,p2,vs,ws,rfl,rfl,s2 _ _ h1,h2,by rw[←rs1.length,←rs2.length];exact hl,fun p hp=>?_⟩
 exact k p _ _ ((s1.trans s2).trans (z0t hp)) ((s1.trans s2).free hp) z0s (((rs1.mono s2).append rs2).mono (z0t hp))
/-! max,min of two ints -/
def maxF:List D->Option D
 |[.int i,.int j]=>some (.int (if j>i then j else i))
 |_=>none
def minF:List D->Option D
 |[.int i,.int j]=>some (.int (if j<i then j else i))
 |_=>none
theorem oa_min{K:aa}:OpA K (fun xs H Q=>∃i j,xs=[.int i,.int j]∧Q (.int (if j<i then j else i)) H) minF:=by
 intro H B ds d vs Q hB hr q k
 unfold minF at q
 split at q
 case h_2=>cases q
 case h_1 i j=>
 cases q
 unfold Reps at hr
 obtain⟨x,r,rfl,hx,hr⟩:=hr
 obtain⟨y,rfl,hy⟩:=z4c hr
 unfold Rep at hx hy
 subst hx hy
 exact⟨i,j,rfl,k _ H (.refl H) (by unfold Rep;rfl)⟩
variable{p:Pos}
theorem y3N(hc:X.calm=true)(hg:Gl X "min")(hm:X.mg "min" = none)(ha:PD X a f)(hb:PD X b g)(he:starEach [a,b] X.env=(false,eval a X.env)::starEach [b] X.env:=by rfl)(he2:starEach [b] X.env=[(false,eval b X.env)]:=by rfl)(hpl:(dY pos (starEach [b] X.env)).any (·.1)=false:=by rfl):PD X (.Call (.Name "min" p) [a,b] [] pos) (z0p minF [f,g]):=
 z4g (y1o hc) oa_min hg hm PyProof.Rows.Boot.«min» (z0a ha (z0a hb z0d he2) he) (by decide) (by decide) he hpl
end
end L2

/-! ### E17: list.index;extend,clear of an owned list -/
namespace L2
open PySem PySem.Spec PyProof.Rows
section
end
section
variable{f:DE}
/-- a call for itself -/
def exprN(f:DE):SS->Option Out:=fun δ=>(f (z0i δ)).map fun _=>.nx δ
end
end L2

/-! ### E18: range(lo,hi,step);while;x is None -/
namespace L2
open PySem PySem.Spec PyProof.Rows
def cntR(lo hi c:Int):Nat:=if lo<hi then((hi - lo - 1) / c+1).toNat else 0
section
theorem Vals.three:∀{x y z:V} {us:List Value},Vals [x,y,z] us->∃u v w,us=[u,v,w]∧RelV x u∧RelV y v∧RelV z w
 |_,_,_,_,.cons r (.cons q (.cons p .nil))=>⟨_,_,_,rfl,r,q,p⟩
def rngC(lo c:Int)(n:Nat):List D:=(ar n).map fun i=>.int (lo+(i:Nat)*c)
def rng3:Option D->Option D->Option D->Option (List D)
 |some (.int i),some (.int j),some (.int c)=>if -(2 ^ 61)≤i∧i<2 ^ 61∧-(2 ^ 61)≤j∧j<2 ^ 61∧0<c∧c<2 ^ 30 then some (rngC i c (cntR i j c))else none
 |_,_,_=>none
def dRng3(f g h:DE):DS->Option (List D):=fun δ=>rng3 (f δ) (g δ) (h δ)
end
/-! while -/
section
/-! x is None -/
def isN:D->Bool
 |.non=>true
 |_=>false
def dIsN(f:DE):DS->Option Bool:=fun δ=>(f δ).map isN
def dNotN(f:DE):DS->Option Bool:=fun δ=>(f δ).map fun d=>!isN d
end
end L2

/-! ### E19: x is True;xs.clear(),xs.extend(..);sorted of ints -/
namespace L2
open PySem PySem.Spec PyProof.Rows
section
variable{X:Cx}{a b:Expr}{f:DE}{pos:Pos}
def isB:D->D->Option D
 |.bl c,.bl d=>some (.bl (c==d))
 |_,_=>none
def notB:D->D->Option D
 |.bl c,.bl d=>some (.bl (c != d))
 |_,_=>none
variable{H0:Hp}{B0:Addr->Prop}{fr:Bool}{RX:XR}{x:Str}{px ap cp:Pos}{e:Expr}
def clr0(i:Nat):SS->Option Out:=fun δ=>match δ[i]? with
 |some (some (.ow (.lst _)))=>some (.nx ((z0r i δ).set i (some (.ow (.lst [])))))
 |_=>none
theorem y4t{i:Nat}(hx:PE X (.Name x px) (z5m i))(hbase:dS (.Name x px) "clear" X.env (eval (.Name x px) X.env)=eval (.Name x px) X.env:=by rfl)(hline:(ap.endLine==cp.line)=true:=by rfl)
  (hsw:swapsWith (.Call (.Attribute (.Name x px) "clear" ap) [] [] cp) none pos.line X.env=pure false:=by rfl):
  PS X (.Expr (.Call (.Attribute (.Name x px) "clear" ap) [] [] cp) pos) (tS X.K H0 B0 fr RX (clr0 i)):=
 PS.imp (z2P (y6z PySem.F.plainAttrs_list PySem.F.slot_list_clear PySem.F.type_list_clear z8u hx hbase hline) hsw) fun D σ H ⟨δ,R,o,rs,q,k⟩=>by
  unfold clr0 at q
  split at q
  case h_2=>cases q
  case h_1 ds ei=>
  cases q
  obtain⟨a,xs,A,ev,ha,ts,eR,nd⟩:=rs.top ei
  refine⟨.ref a,ev,.inl ⟨rfl,xs,SqL.of ha⟩,?_⟩
  refine z8r (K:=X.K) H a xs ds [] [] [] _ ha ts.length .nil rfl fun w xs' up=>?_
  obtain⟨A',t',n',sub⟩:=up H A [] ts .nil
  have P:=rs.put0 (.refl H) ei ev eR nd t' (n' (by rw[aG];exact(am.mp nd).2)) fun b hb=>(sub b hb).imp id fun z=>nomatch z
  exact k σ _ _ P.1 P.2
def y2j(i:Nat)(f:DE):SS->Option Out:=fun δ=>(f (z0i δ)).bind fun d=>(match d,δ[i]? with
 |.lst es,some (some (.ow (.lst ds)))=>if ds.length+es.length≤sizeLine then some (.nx ((z0r i δ).set i (some (.ow (.lst (ds++es))))))else none
 |_,_=>none)
theorem y1V{i:Nat}(hx:PE X (.Name x px) (z5m i))(he:PN X e f)(hbase:dS (.Name x px) "extend" X.env (eval (.Name x px) X.env)=eval (.Name x px) X.env:=by rfl)
  (hfew:((dY cp (starEach [e] X.env)).all (fun x=>!x.1)&&(backToKw cp (keywordEach [] X.env)).all (fun x=>x.1.isSome)&&decide ([e].length+([]:List d3).length+(if([]:List d3).isEmpty then 0 else 1)<30))=true:=by rfl)
  (hline:(ap.endLine==cp.line)=true:=by rfl) (hs:starEach [e] X.env=(false,eval e X.env)::starEach [] X.env:=by rfl) (hsw:swapsWith (.Call (.Attribute (.Name x px) "extend" ap) [e] [] cp) none pos.line X.env=pure false:=by rfl):
  PS X (.Expr (.Call (.Attribute (.Name x px) "extend" ap) [e] [] cp) pos) (tS X.K H0 B0 fr RX (y2j i f)):=
 PS.imp (z2P (y3L PySem.F.plainAttrs_list PySem.F.slot_list_extend PySem.F.type_list_extend z7h hx (z1v he pa_nil hs) hbase hfew hline hs rfl) hsw) fun D σ H ⟨δ,R,o,rs,q,k⟩=>by
  unfold y2j at q
  cases e1:f (z0i δ)with
  |none=>rw[e1]at q;cases q
  |some d=>
  rw[e1,af]at q
  split at q
  case h_2=>cases q
  case h_1 es ds ei=>
  split at q
  case isFalse=>cases q
  case isTrue hl=>
  cases q
  obtain⟨a,xs,A,ev,ha,ts,eR,nd⟩:=rs.top ei
  refine⟨.ref a,ev,.inl ⟨rfl,xs,SqL.of ha⟩,z0i δ,_,rs.all,e1,fun y H2 C s2 t2 nC fC=>?_⟩
  unfold Tree at t2
  obtain⟨b,zs,C',rfl,hb,tz,rfl⟩:=t2
  have nC':=(am.mp nC).2
  refine⟨a,b,xs,zs,rfl,rfl,s2 _ _ ha,hb,by rw[←ts.length,←tz.length];exact hl,?_⟩
  have hAC:(A++C').Nodup:=ay.mpr ⟨(am.mp nd).2,nC',fun p hp c hc z=>by
   subst z
   obtain⟨u,q,_⟩:=Trees.held ds ts p hp
   rw[fC p (ac _ hc)]at q;cases q⟩
  have P:=rs.put0 s2 ei ev eR nd ((ts.mono s2).append tz) hAC fun p hp=>(aw.mp hp).imp id fun z=>fC p (ac _ z)
  exact k σ _ _ P.1 P.2
end
end L2

/-! ### E20: sorted of ints -/
namespace L2
open PySem PySem.Spec PyProof.Rows
def insS(x:Int):List Int->List Int
 |[]=>[x]
 |y::r=>if x≤y then x::y::r else y::insS x r
def srtI:List Int->List Int
 |[]=>[]
 |x::r=>insS x (srtI r)
section
end
section
end
end L2

/-! ### E21: list(reversed(xs)),xs a list -/
namespace L2
open PySem PySem.Spec PyProof.Rows
section
end
section
end
section
def revF:List D->Option (List D)
 |[.lst ds]=>some ds.reverse
 |_=>none
end
end L2

/-! ### E22: an exception passes a frame: what is left as it was -/
namespace L2
open PySem PySem.Spec PyProof.Rows
/-- the exception at e of the class cls,its newest traceback entry at T -/
def Thr(h:Heap)(e T:Addr)(cls:Value):Prop:=∃oe vs oT ts,h.get? e=some oe∧oe.cls=cls∧oe.data = .fields vs∧vs[1]? = some (.ref T)∧T≠e∧h.get? T=some oT∧oT.data = .fields ts∧ts[3]? = some .none∧oe.dict=none
/-- a new exception,no traceback yet -/
def Thr0(h:Heap)(e:Addr)(cls:Value):Prop:=∃oe vs,h.get? e=some oe∧oe.cls=cls∧oe.data = .fields vs∧vs[1]? = some .none∧oe.dict=none
structure Gone(S ch:List Addr)(e:Addr)(cls:Value)(h h':Heap):Prop where
 keep:∀b o,b∉S->b∉ch->h.get? b=some o->h'.get? b=some o
 slot:∀b o,b∈S->b∉ch->h.get? b=some o->∃sl,h'.get? b=some { o with slots:=sl }
 there:∀b o,h.get? b=some o->∃o',h'.get? b=some o'
 thr:∃T,h.objs.size≤T∧Thr h' e T cls
section
variable{M:Model}{A:Around}{E:Value->dw->Prop}{s:dw}
theorem y5e{o:Obj}{f:Array Value->Array Value}(h:o.dict=none):(Obj.mapFields f o).dict=none:=by
 unfold Obj.mapFields
 split <;> exact h
theorem z8Q{base:Heap}{env:Env}{outer:List Env}{L e:Addr}{oe:Obj}{vs:Array Value}{head:Value}{hadNext:Bool}{Q:Unit->dw->Prop}
  (hfr:A.frames=some (env::outer)) (hl:s.heap.FunFrames base (env::outer)) (hf:env.frame=some L)
  (he:s.heap.get? e=some oe) (hd:oe.data = .fields vs) (hsz:1<vs.size) (hdn:oe.dict=none)
  (h:∀h',Gone (frs (env::outer)) [e] e oe.cls s.heap h'->Q () { s with heap:=h' }):
  wpAny M A (do let a ←frameOf env;let pl ←entryPlaceOf L hadNext;let b ←EntryCells.newEntry head a .none (rawInt L) .none pl;setField (.ref e) 1 b) (fun _ s'=>wpAny M A (setFlight (.ref e) none) Q E s') E s:=by
 have hene:e∉frs (env::outer):=fun hm=>by
  obtain⟨_,o,ho,hnf⟩:=hl.mem hm
  rw[he]at ho;injection ho with ho;subst ho;exact hnf vs hd
 refine wpAny_bind (wpAny_frameOf_fun hfr hl hf fun h₁ hs₁=>?_)
 refine wpAny_bind (wpAny_entryPlaceOf fun pl hpl=>?_)
 unfold EntryCells.newEntry newFields
 refine wpAny_bind (wpAny_newObj_type ?_ (hpl.sizeOk5 _ _ _ _ _))
 have he₁:h₁.get? e=some oe:=(hs₁.2.1 e hene).trans he
 generalize hob:({ cls:=.type "traceback",dict:=none,data:=.fields ([head,.ref L,.none,rawInt L,.none]++(if pl.isEmpty then ad 6 Value.none else pl)).toArray }:Obj)=ob
 have hobd:ob.data = .fields ([head,.ref L,.none,rawInt L,.none]++(if pl.isEmpty then ad 6 Value.none else pl)).toArray:=by rw[←hob]
 have hobf:ob.isFreed=false:=by rw[←hob];rfl
 have he₂:=Heap.get?_push_of_some (h:=h₁) ob he₁
 refine wpAny_setField he₂ hd hsz ?_
 have hTe:h₁.objs.size≠e:=cA (Heap.lt_size he₁)
 have hd₃:=Obj.data_mapFields hd (·.setIfInBounds 1 (Value.ref h₁.objs.size))
 have he₃:=Heap.get?_update_self (Obj.mapFields (·.setIfInBounds 1 (Value.ref h₁.objs.size))) he₂ (Obj.isFreed_of_fields hd₃)
 have hT₃:=(Heap.get?_update_other (h₁.push ob) (Obj.mapFields (·.setIfInBounds 1 (Value.ref h₁.objs.size))) (Ne.symm hTe)).trans (Heap.get?_push_size h₁ hobf)
 unfold setFlight
 refine wpAny_bind (wpAny_field he₃ hd₃ (x:=.ref h₁.objs.size) (by simp[hsz]) ?_)
 rw[if_pos (show(Value.ref h₁.objs.size != Value.none)=true from by simp)]
 refine wpAny_setField hT₃ hobd (by simp only[ai,av,bv,List.length_nil] <;> omega) (h _ ?_)
 have keep:∀b o,b≠e->h₁.get? b=some o →
   (((h₁.push ob).update e (Obj.mapFields (·.setIfInBounds 1 (Value.ref h₁.objs.size)))).update h₁.objs.size (Obj.mapFields (·.setIfInBounds 3 ((none:Option Addr).elim Value.none fun f=>rawInt f)))).get? b=some o:=fun b o hbe hb=>by
  have hbT:h₁.objs.size≠b:=cA (Heap.lt_size hb)
  rw[Heap.get?_update_other _ _ hbT,Heap.get?_update_other _ _ (Ne.symm hbe)]
  exact Heap.get?_push_of_some _ hb
 have heF:(((h₁.push ob).update e (Obj.mapFields (·.setIfInBounds 1 (Value.ref h₁.objs.size)))).update h₁.objs.size (Obj.mapFields (·.setIfInBounds 3 ((none:Option Addr).elim Value.none fun f=>rawInt f)))).get? e=some (Obj.mapFields (·.setIfInBounds 1 (Value.ref h₁.objs.size)) oe):=by
  rw[Heap.get?_update_other _ _ hTe];exact he₃
 refine⟨fun b o hb hc e1=>?_,fun b o hb hc e1=>?_,fun b o e1=>?_,h₁.objs.size,?_,?_⟩
 ·exact keep b o (fun z=>hc (by simp[z])) ((hs₁.2.1 b hb).trans e1)
 ·obtain⟨sl,e2⟩:=hs₁.2.2 b o e1
  exact⟨sl,keep b _ (fun z=>hc (by simp[z])) e2⟩
 ·by_cases hb:b=e
  ·exact⟨Obj.mapFields (·.setIfInBounds 1 (Value.ref h₁.objs.size)) oe,by rw[hb];exact heF⟩
  ·obtain⟨sl,e2⟩:=hs₁.2.2 b o e1
   exact⟨_,keep b _ hb e2⟩
 ·rw[hs₁.1]
  exact ak _
 ·exact⟨_,_,_,_,heF,Obj.cls_mapFields _ _,hd₃,by simp[hsz],hTe,Heap.get?_update_self _ hT₃ (Obj.isFreed_of_fields (Obj.data_mapFields hobd _)),Obj.data_mapFields hobd _,by first | (simp;done) | (rcases hpl with rfl | ⟨_,_,_,_,_,_,_,rfl⟩ <;> simp),y5e hdn⟩
theorem z9T{base:Heap}{env:Env}{outer:List Env}{L e:Addr}{cls:Value}{Q:Unit->dw->Prop}
  (hfr:A.frames=some (env::outer)) (hl:s.heap.FunFrames base (env::outer)) (hf:env.frame=some L) (ht:Thr0 s.heap e cls)
  (h:∀h',Gone (frs (env::outer)) [e] e cls s.heap h'->Q () { s with heap:=h' }):wpAny M A (noteFrame (.ref e) env) (fun _ s'=>wpAny M A (setFlight (.ref e) none) Q E s') E s:=by
 obtain⟨oe,vs,he,rfl,hd,h1,hdn⟩:=ht
 unfold noteFrame
 simp only[hf]
 refine wpAny_bind (wpAny_field he hd h1 ?_)
 rw[if_neg (by decide)]
 exact z8Q hfr hl hf he hd (b7.mp h1).1 hdn h
theorem y0C{base:Heap}{env:Env}{outer:List Env}{L e T:Addr}{cls:Value}{Q:Unit->dw->Prop}
  (hfr:A.frames=some (env::outer)) (hl:s.heap.FunFrames base (env::outer)) (hf:env.frame=some L) (ht:Thr s.heap e T cls)
  (h:∀h',Gone (frs (env::outer)) [e,T] e cls s.heap h'->Q () { s with heap:=h' }):wpAny M A (noteFrame (.ref e) env) (fun _ s'=>wpAny M A (setFlight (.ref e) none) Q E s') E s:=by
 obtain⟨oe,vs,oT,ts,he,rfl,hd,h1,hTe,hT,hdT,h3,hdn⟩:=ht
 unfold noteFrame
 simp only[hf]
 refine wpAny_bind (wpAny_field he hd h1 ?_)
 rw[if_pos (show(Value.ref T != Value.none)=true from by simp)]
 refine wpAny_bind (wpAny_field hT hdT h3 ?_)
 rw[if_neg (show ¬ ((Value.none==rawInt L)=true) from by simp[rawInt])]
 refine wpAny_bind (wpAny_setField hT hdT (b7.mp h3).1 ?_)
 have other:∀b,b≠T->(s.heap.update T (Obj.mapFields (·.setIfInBounds 3 Value.none))).get? b=s.heap.get? b:=fun b hb=>Heap.get?_update_other _ _ (Ne.symm hb)
 have noRecord:∀b o,s.heap.get? b=some o->(∀vs,o.data≠.fields vs)->b≠T:=fun b o hb hnf q=>by
  rw[q,hT]at hb;injection hb with hb;subst hb;exact hnf ts hdT
 refine z8Q hfr (hl.of_keeps fun b o hb hnf=>⟨o,(other b (noRecord b o hb hnf)).trans hb,rfl⟩) hf ((other e (Ne.symm hTe)).trans he) hd (b7.mp h1).1 hdn fun h' G=>h h' ?_
 refine⟨fun b o hb hc e1=>G.keep b o hb (fun z=>hc (aq.mpr (.inl (aS.mp z)))) ((other b fun z=>hc (by simp[z])).trans e1),fun b o hb hc e1=>G.slot b o hb (fun z=>hc (aq.mpr (.inl (aS.mp z)))) ((other b fun z=>hc (by simp[z])).trans e1),fun b o e1=>?_,?_⟩
 ·by_cases hb:b=T
  ·have e2:(s.heap.update T (Obj.mapFields (·.setIfInBounds 3 Value.none))).get? b=some (Obj.mapFields (·.setIfInBounds 3 Value.none) oT):=by
    rw[hb]
    exact Heap.get?_update_self _ hT (Obj.isFreed_of_fields (Obj.data_mapFields hdT _))
   exact G.there b _ e2
  ·exact G.there b o ((other b hb).trans e1)
 ·obtain⟨T',h1,h2⟩:=G.thr
  exact⟨T',by rwa [Heap.size_after_update]at h1,h2⟩
theorem z5z{env:Env}{e:Value}{Q:Unit->dw->Prop}(h:wpAny M A (noteFrame e env) (fun _ s'=>wpAny M A (setFlight e none) Q E s') E s):wpAny M A (leaving env e) Q E s:=by
 unfold leaving
 exact wpAny_bind h
end
end L2

/-! ### E23: an exception leaves a def,and passes its callers -/
namespace L2
open PySem PySem.Spec PyProof.Rows
theorem ObjOk.some{P:dN}{w:dO}{H:Hp}{h:Heap}{a:Addr}{o:HO}(x:ObjOk P w H h a o):∃ob,h.get? a=Option.some ob:=by
 cases q:h.get? a with
 |some ob=>exact⟨ob,rfl⟩
 |none=>
  have y:ObjOk P w H h a o:=x
  induction o with
  |lst xs=>obtain⟨_,_,_,_,e⟩:=x;rw[q]at e;cases e
  |tup xs=>obtain⟨_,_,_,_,e,_⟩:=x;rw[q]at e;cases e
  |dK kvs=>obtain⟨_,_,_,_,_,_,_,e,_⟩:=x;rw[q]at e;cases e
  |dT kvs=>obtain⟨_,_,_,_,_,_,_,e,_⟩:=x;rw[q]at e;cases e
  |set S n=>obtain⟨_,_,_,_,e,_⟩:=x;rw[q]at e;cases e
  |ins C dx fs=>obtain⟨_,_,_,e,_⟩:=x;rw[q]at e;cases e
  |own y=>obtain⟨_,e⟩:=x;rw[q]at e;cases e
  |xd fs=>obtain⟨_,⟨_,_,_,e,_⟩,_⟩:=x;rw[q]at e;cases e
  |met f y=>have e:=x;unfold ObjOk at e;rw[q]at e;cases e
  |rng lo hi=>obtain⟨_,_,_,e⟩:=x;rw[q]at e;cases e
  |frz ob u ih=>have e:=x.1;rw[q]at e;cases e
  |tbl ps=>have e:=x;unfold ObjOk at e;rw[q]at e;cases e
  |ext φ=>obtain⟨_,⟨_,e⟩,_⟩:=x;rw[q]at e;cases e
section
variable{X:Cx}{pins:List (Addr×Obj)}{σ:St}{H:Hp}{s:dw}
/-- a record of ours that is not tracked and was not there at the entry -/
def FpX(X:Cx)(pins:List (Addr×Obj))(H:Hp)(b:Addr):Prop:=
 H b=none∧b≠X.env.locals∧(b∈X.ex∨X.s₀.heap.get? b=none)∧(∀x c,X.env.cells.lookup x=some c->c≠b)∧∀p∈X.pn++pins,p.1≠b
theorem Inv.fpX{H':Hp}{b:Addr}(I:Inv X pins σ H s)(hb:s.heap.get? b=none)(hn:H' b=none):FpX X pins H' b:=by
 refine⟨hn,fun z=>?_,?_,fun x c e z=>?_,fun p hp z=>?_⟩
 ·obtain⟨m,⟨o,_,_,ho,_⟩,_⟩:=I.loc
  rw[←z,hb]at ho
  cases ho
 ·by_cases hx:b∈X.ex
  ·exact .inl hx
  ·refine .inr ?_
   cases q:X.s₀.heap.get? b with
   |none=>rfl
   |some o=>
    obtain⟨o',e⟩:=I.base.there b o q hx
    rw[hb]at e
    cases e
 ·obtain⟨v,o,ho,_⟩:=I.cell x c e
  rw[z,hb]at ho
  cases ho
 ·have:=(I.pin p hp).1
  rw[z,hb]at this
  cases this
theorem Inv.fresh0{b:Addr}(I:Inv X pins σ H s)(hb:s.heap.get? b=none):H b=none:=by
 cases q:H b with
 |none=>rfl
 |some u=>
  obtain⟨o,e⟩:=(I.hok b u q).some
  rw[hb]at e
  cases e
theorem Inv.gone3{ch:List Addr}{h':Heap}(I:Inv X pins σ H s)(gk:∀b o,b∉frs X.stack->b∉ch->s.heap.get? b=some o->h'.get? b=some o)(gs:∀b o,b∈frs X.stack->b∉ch->s.heap.get? b=some o->∃sl,h'.get? b=some { o with slots:=sl })(gt:∀b o,s.heap.get? b=some o->∃o',h'.get? b=some o')(hch:∀b∈ch,FpX X pins H b):Inv X pins σ H { s with heap:=h' }:=by
 have nS:∀b u,H b=some u->b∉frs X.stack:=fun b u q z=>by rw[I.stkFree b z]at q;cases q
 have nC:∀b u,H b=some u->b∉ch:=fun b u q z=>by rw[(hch b z).1]at q;cases q
 have hok:HOk X.prog X.w H h':=fun b u q=>(I.hok b u q).stay (fun c v hc e=>by
  rcases hc with rfl | z
  ·exact gk _ v (nS _ u q) (nC _ u q) e
  ·exact gk c v (nS c _ z) (nC c _ z) e) (fun _ q=>q) fun _ _ q=>q
 have any:∀b o,b∉ch->s.heap.get? b=some o->∃sl,h'.get? b=some { o with slots:=sl }:=fun b o hc q=>by
  by_cases hb:b∈frs X.stack
  ·exact gs b o hb hc q
  ·exact⟨o.slots,gk b o hb hc q⟩
 have new:∀b o,X.s₀.heap.get? b=some o->b∉X.ex->b∉ch:=fun b o q hx z=>by
  rcases (hch b z).2.2.1 with y | y
  ·exact hx y
  ·rw[y]at q;cases q
 have kp:∀b o,b≠X.env.locals->b∉X.fs->b∉ch->s.heap.get? b=some o->h'.get? b=some o:=fun b o hL hb hc q=>
  gk b o (fun z=>(aq.mp (I.stkSub b z)).elim hL hb) hc q
 have old:∀b o,X.s₀.heap.get? b=some o->b≠X.env.locals:=fun b o q=>ax (az (Heap.lt_size q) I.ok.above)
 have cellK:∀x c,X.env.cells.lookup x=some c->∀v,s.heap.IsCell c v->h'.IsCell c v:=fun x c q v ⟨o,ho,hd⟩=>by
  obtain⟨sl,y⟩:=any c o (fun z=>(hch c z).2.2.2.1 x c q rfl) ho
  exact⟨_,y,hd⟩
 refine⟨I.ok,I.os,I.bare,⟨?_,?_,fun b o q n hx=>I.base.free b o q n hx,?_,I.base.tups,I.base.frzs,I.base.tbls⟩,?_,?_,I.free,I.freeC,?_,hok,I.len⟩
 ·exact fun b o q n hb hx=>kp b o (old b o q) hb (new b o q hx) (I.base.keep b o q n hb hx)
 ·intro b o q n hb hx
  obtain⟨sl,q1⟩:=I.base.slot b o q n hb hx
  obtain⟨sl',q2⟩:=any b _ (new b o q hx) q1
  exact⟨sl',q2⟩
 ·intro b o q hx
  obtain⟨o',q1⟩:=I.base.there b o q hx
  exact gt b o' q1
 ·obtain⟨m,⟨o,es,ep,ho,r⟩,hl⟩:=I.loc
  obtain⟨sl,hL⟩:=any _ o (fun z=>(hch _ z).2.1 rfl) ho
  refine⟨m,⟨_,es,ep,hL,r⟩,fun i x v e1 e2 e3=>?_⟩
  obtain⟨u,r,l⟩:=hl i x v e1 e2 e3
  exact⟨u,r,l.imp id fun⟨k,c,q,z⟩=>⟨k,c,q,cellK x c q _ z⟩⟩
 ·intro x c q
  obtain⟨v,z⟩:=I.cell x c q
  exact⟨v,cellK x c q v z⟩
 ·intro p hp
  obtain⟨q,n,ne,nf,d⟩:=I.pin p hp
  exact⟨kp p.1 p.2 ne nf (fun z=>(hch p.1 z).2.2.2.2 p hp rfl) q,n,ne,nf,d⟩
theorem Inv.gone{ch:List Addr}{e:Addr}{cls:Value}{h':Heap}(I:Inv X pins σ H s)(G:Gone (frs X.stack) ch e cls s.heap h')(hch:∀b∈ch,FpX X pins H b):Inv X pins σ H { s with heap:=h' }:=I.gone3 G.keep G.slot G.there hch
end
/-- an exception behind a call: its object,its newest traceback entry (both new,neither tracked),its class -/
def CXE(P:dN)(w:dO):CXT:=fun outer H s E e s'=>∃(ea T:Addr) (cls:Value) (H':Hp),e = .ref ea∧s'.os=s.os∧AllBare s'.gens∧Un (frs outer) [] H H' s.heap s'.heap∧HOk P w H' s'.heap ∧
 s.heap.get? ea=none∧s.heap.get? T=none∧H' ea=none∧H' T=none∧Thr s'.heap ea T cls∧E cls none H'
section
variable{P:dN}{w:dO}{K:aa}{mg:Str->Option Value}{base:Heap}{N:List Str}{qual:Str}{scope:d5}{f:Addr}{cd:Value}{A:Around}{outer:List Env}{s:dw}{H:Hp}{E:XK}
/-- a new exception leaves the def in which it was raised -/
theorem y3F{pins:List (Addr×Obj)}{σ:St}{H1:Hp}{s1:dw}{e:Addr}{cls:Value}(I:Inv (z8G (CXE P w) P w K mg base N qual scope f cd A outer s H E) pins σ H1 s1)
  (hf:FpX (z8G (CXE P w) P w K mg base N qual scope f cd A outer s H E) pins H1 e) (ht:Thr0 s1.heap e cls) (hE:E cls none H1):(z8G (CXE P w) P w K mg base N qual scope f cd A outer s H E).xe (.ref e) s1:=by
 refine z5z (z9T (base:=base) (outer:=outer) I.ok.frames I.stack rfl ht fun h' G=>?_)
 have I':=I.gone G fun b hb=>by rw[aS.mp hb];exact hf
 obtain⟨T,hT,th⟩:=G.thr
 have he:s.heap.get? e=none:=by
  rcases hf.2.2.1 with z | z
  ·exact absurd (show e∈([]:List Addr) from z) (by simp)
  ·exact z
 exact⟨e,T,cls,H1,rfl,I'.os,I'.bare,I'.base,I'.hok,he,Heap.get?_none_of_le (aR I.sz hT),hf.1,I.hok.fresh hT,th,hE⟩
end
end L2

/-! ### E24: raise C(e) -/
namespace L2
open PySem PySem.Spec PyProof.Rows
section
variable{X:Cx}{x:Str}{C:Addr}{B Bn newId nid initId inN:String}{bm bmN:List Value}{np cpos pos:Pos}{e₀:Expr}{te:TE}
def tRaise(te:TE)(R:St->Hp->Prop):TS:=fun _ σ H=>te σ H fun _ H1=>R σ H1
/-- what is wanted of a new exception of the class at C,where the slots and the heap are such that R -/
def Want(X:Cx)(C:Addr)(R:St->Hp->Prop):Prop:=∀(pins:List (Addr×Obj)) (σ:St) (H:Hp) (s:dw) (e:Addr),Inv X pins σ H s->FpX X pins H e->Thr0 s.heap e (.ref C)->R σ H->X.xe (.ref e) s
theorem y4J{R:St->Hp->Prop}(hc:X.calm=true)(hg:Gl X x)(O:OwnCls x C bm newId X.mg X.base)(Fn:ExcBaseFacts Bn newId inN bmN)(hBn:bm.contains (.type Bn)=true)(FB:ExcBaseFacts B nid initId bm)(hW:Want X C R)(h:PE X e₀ te)
  (he:starEach [e₀] X.env=[(false,eval e₀ X.env)]:=by rfl) (hd:(x==("__debug__" : Str))=false:=by decide):PS X (.Raise (some (.Call (.Name x np) [e₀] [] cpos)) none pos) (tRaise te R):=by
 intro pins s σ H D I hq
 obtain⟨tl,N,nm,q,bs,hdct,sn,sub,ab,col,dd,k0,k1,k2,k3,k5,mN,hC,hN,hni,T⟩:=O.obj
 refine wpAny_Raise_call_subU (C:=C) (nm:=nm) (q:=q) (N:=N) (bs:=bs) (bm:=tl) (hdct:=hdct) (sn:=sn) (sub:=sub) (ab:=ab) (col:=col) (dd:=dd) (k0:=k0) (k1:=k1) (k2:=k2) (k3:=k3) (k5:=k5)
  Fn hBn FB (mN:=mN) (T.hasType FB.hasBase) (I.ok.hd hc) (by rw[he];rfl) hni (z8b I hg O.bound ⟨rfl,?_⟩ hd)
 have ha:=(z1v h pa_nil he) cpos pins s σ H (fun vs H1=>match vs with
  |[_]=>R σ H1
  |_=>False) I hq
 rw[he]at ha ⊢
 refine Calls.evalArgs_plain (thn ha fun us s2 ⟨vs,H2,I2,r2,q2⟩=>?_)
 cases r2 with
 |nil=>exact(show False from q2).elim
 |cons r r3=>
  cases r3 with
  |cons _ _=>exact(show False from q2).elim
  |nil=>
   refine⟨rfl,by show 1≤sizeLine;rw[sizeLine_eq];omega,I2.bk _ _ hC,hN.keeps I2.bk,T.keeps I2.bk,fun h' e hm=>?_⟩
   obtain⟨t,he',_⟩:=hm.there
   have I3:Inv X pins σ H2 { s2 with heap:=h' }:=I2.kept (t':=s2.toks) hm.keeps
   exact hW pins σ H2 _ e I3 (I2.fpX hm.new (I2.fresh0 hm.new)) ⟨_,_,he',rfl,rfl,rfl,rfl⟩ q2
variable{H0:Hp}{B0:Addr->Prop}{fr:Bool}{RX:XR}
def z3U(c:Nat)(f:DE):SS->Option Out:=fun δ=>(f (z0i δ)).map fun _=>.ex c δ
theorem s_raise{c:Nat}{f:DE}(hc:X.calm=true)(hg:Gl X x)(O:OwnCls x C bm newId X.mg X.base)(Fn:ExcBaseFacts Bn newId inN bmN)(hBn:bm.contains (.type Bn)=true)(FB:ExcBaseFacts B nid initId bm)(hW:Want X C (RX c))(h:PD X e₀ f)
  (he:starEach [e₀] X.env=[(false,eval e₀ X.env)]:=by rfl) (hd:(x==("__debug__" : Str))=false:=by decide):PS X (.Raise (some (.Call (.Name x np) [e₀] [] cpos)) none pos) (tS X.K H0 B0 fr RX (z3U c f)):=
 PS.imp (y4J hc hg O Fn hBn FB hW h he hd) fun D σ H ⟨δ,R,o,rs,q,k⟩=>by
  unfold z3U at q
  cases e:f (z0i δ)with
  |none=>rw[e]at q;cases q
  |some d=>
   rw[e]at q
   cases q
   exact⟨noB,z0i δ,d,.no,rs.all,e,fun v H1 s1 r1=>k σ H1 R (rs.mono s1) (.same s1)⟩
end
end L2

/-! ### E25: defs that may raise -/
namespace L2
open PySem PySem.Spec PyProof.Rows
inductive XO where
 |val (d:D) | exc (c:Nat)
def spX(K:aa)(cl:Nat->Value)(m:List D->Option XO):Sp:=fun vs H Q E=>∃ds o,Reps K H noB ds vs∧m ds=some o∧(match o with
 |.val d=>∀v H' A,Same H H'->Tree K H' d v A->A.Nodup->(∀a∈A,H a=none)->Q v H'
 |.exc c=>∀H',Same H H'->E (cl c) none H')
def y7M(np nl:Nat)(g:SS->Option Out):List D->Option XO:=fun ds=>if ds.length=np then(match g (ds.map (fun d=>some (.sh d))++ad nl none)with
 |some (.rt d)=>some (.val d)
 |some (.nx _)=>some (.val .non)
 |some (.ex c _)=>some (.exc c)
 |_=>none)else none
theorem z9x{np nl:Nat}{g:SS->Option Out}{ds:List D}{o:XO}(h:y7M np nl g ds=some o):ds.length=np:=by
 unfold y7M at h
 split at h
 ·assumption
 ·cases h
/-- the wish of a def that may raise -/
abbrev defRX(cl:Nat->Value)(E:XK):XR:=fun c _ H1=>E (cl c) none H1
section
variable{P:dN}{w:dO}{K:aa}{mg:Str->Option Value}{base:Heap}
theorem fnX{x qual:Str}{st:Stmt}{f:Addr}{fd:dP}{N ps:List Str}{k np nl:Nat}{g:SS->Option Out}{cl:Nat->Value}(F:Fun K x qual st f fd)(S:FnScope N ps (z0f st))(hnp:ps.length=np)(hN:N.length=np+nl)
  (hbody:∀(cdv:Value) (A:Around) (outer:List Env) (s:dw) (H:Hp) (E:XK),Room k (A.deeper (envOfC qual (z0f st) s.heap.objs.size f cdv)) →
   PSs (z8G (CXE P w) P w K mg base N qual (z0f st) f cdv A outer s H E) (z1d st) (tS K H noB true (defRX cl E) g)):FnOk P w K mg base (CXE P w) (k+1) f fd ps (spX K cl (y7M np nl g)):=by
 obtain⟨oc,od,kV,doc,pm,an,cdv,ct,osl,rfl,lk,hcd⟩:=F.ex
 refine fn_of lk hcd S (fun vs H Q E h=>?_) fun A outer s H vs Q E hr h=>?_
 ·obtain⟨ds,o,r,e,_⟩:=h
  rw[←r.length,z9x e,hnp]
 ·obtain⟨ds,o,r,e,kk⟩:=h
  refine⟨_,hbody cdv A outer s H E hr,?_⟩
  have hl:=z9x e
  unfold y7M at e
  rw[if_pos hl]at e
  have rs:=z8f (nl:=nl) .no r (N:=N) (by omega)
  split at e
  ·rename_i d' eg
   cases e
   exact⟨_,_,_,rs,eg,fun v H' z _=>by
    obtain⟨A',t,nd,fr⟩:=z.2.1 rfl
    exact kk v H' A' z.1 t nd fr⟩
  ·rename_i δ' eg
   cases e
   exact⟨_,_,_,rs,eg,fun σ' H' R' rs' _=>kk .non H' [] rs'.keep ⟨rfl,rfl⟩ aY (fun a z=>nomatch z)⟩
  ·rename_i c δ' eg
   cases e
   exact⟨_,_,_,rs,eg,fun σ' H' R' rs' _=>kk H' rs'.keep⟩
  ·cases e
structure DefX(P:dN)(w:dO)(K:aa)(mg:Str->Option Value)(base:Heap)(k:Nat)(x:Str)(sp:Sp):Prop where
 ok:∃(f:Addr) (fd:dP) (ps:List Str),mg x=some (.ref f)∧bj K (.ref f)=true∧Binds K fd ps []∧FnOk P w K mg base (CXE P w) k f fd ps sp
/-- what is wanted of an exception that a callee lets pass -/
def XW(X:Cx)(cl:Nat->Value)(RX:XR):Prop:=∀(pins:List (Addr×Obj)) (σ:St) (H:Hp) (s:dw) (ea T:Addr) (c:Nat),Inv X pins σ H s->FpX X pins H ea->FpX X pins H T->Thr s.heap ea T (cl c)->RX c σ H->X.xe (.ref ea) s
theorem xw_def{N:List Str}{qual:Str}{scope:d5}{f:Addr}{cd:Value}{A:Around}{outer:List Env}{s:dw}{H:Hp}{E:XK}{cl:Nat->Value}:XW (z8G (CXE P w) P w K mg base N qual scope f cd A outer s H E) cl (defRX cl E):=by
 intro pins σ H1 s1 ea T c I fe fT th hE
 refine z5z (y0C (base:=base) (outer:=outer) I.ok.frames I.stack rfl th fun h' G=>?_)
 have I':=I.gone G fun b hb=>by
  rcases aq.mp hb with rfl | hb
  ·exact fe
  ·rw[aS.mp hb];exact fT
 obtain⟨T',hT,th'⟩:=G.thr
 have he:s.heap.get? ea=none:=by
  rcases fe.2.2.1 with z | z
  ·exact absurd (show ea∈([]:List Addr) from z) (by simp)
  ·exact z
 exact⟨ea,T',cl c,H1,rfl,I'.os,I'.bare,I'.base,I'.hok,he,Heap.get?_none_of_le (aR I.sz hT),fe.1,I.hok.fresh hT,th',hE⟩
theorem z6f{N:List Str}{qual:Str}{scope:d5}{f C:Addr}{cd:Value}{A:Around}{outer:List Env}{s:dw}{H:Hp}{E:XK}{cl:Nat->Value}{c:Nat}(hc:cl c = .ref C):Want (z8G (CXE P w) P w K mg base N qual scope f cd A outer s H E) C (defRX cl E c):=
 fun pins σ H1 s1 e I hf ht hE=>y3F I hf ht (by rw[←hc];exact hE)
end
section
variable{X:Cx}{k:Nat}{f:Addr}{fd:dP}{ps:List Str}{sp:Sp}{cl:Nat->Value}{RX:XR}
theorem run_fnX{pins:List (Addr×Obj)}{σ:St}{H:Hp}{s:dw}{Q:VK}{us:List Value}{vs:List V}(F:FnOk X.prog X.w X.K X.mg X.base (CXE X.prog X.w) k f fd ps sp)(hr:Room k X.A)(hb:Binds X.K fd ps [])(hW:XW X cl RX)
  (I:Inv X pins σ H s) (r:Vals vs us) (h:sp vs H Q (fun cls _ H'=>∃c,cls=cl c∧RX c σ H')):wpAny (model X.prog X.w) X.A (call (.ref f) us) (EP X pins σ Q) X.xe s:=by
 have hl:us.length=ps.length:=by rw[←r.length];exact F.len _ _ _ _ h
 have hb':=hb s us I.kIn (by rw[aG];exact hl)
 rw[aG]at hb'
 refine wpAny_call (codeAny_mono (F.run X.A X.stack s H ⟨us,[]⟩ us vs Q _ hr I.env0 hb' r h) fun r s' hq=>?_)
 cases r with
 |error e=>
  obtain⟨ea,T,cls,H',rfl,os,bare,un,hok,h1,h2,h3,h4,th,c,rfl,rx⟩:=hq
  exact hW pins σ H' s' ea T c (I.call' os un hok bare fun b hb=>nomatch hb) (I.fpX h1 h3) (I.fpX h2 h4) th rx
 |ok fl=>
  cases fl with
  |ret u=>exact I.after hq
  |next=>exact False.elim hq
  |brk=>exact False.elim hq
  |cont=>exact False.elim hq
end
end L2

/-! ### E26: a call that may raise,as a whole statement -/
namespace L2
open PySem PySem.Spec PyProof.Rows
section
variable{X:Cx}{k:Nat}{sp:Sp}{cl:Nat->Value}{RX:XR}{x:Str}{p pos:Pos}{e:Expr}{es:List Expr}{t:TA}
def tCallX(cl:Nat->Value)(RX:XR)(sp:Sp)(t:TA):TE:=fun σ H Q=>t σ H fun vs H1=>sp vs H1 Q fun cls _ H'=>∃c,cls=cl c∧RX c σ H'
theorem y5j(G:DefX X.prog X.w X.K X.mg X.base k x sp)(hr:Room k X.A)(hg:Gl X x)(hW:XW X cl RX)(ha:PA X (e::es) t)(hdb:(x==("__debug__" : Str))=false:=by decide)
  (he:starEach (e::es) X.env=(false,eval e X.env)::starEach es X.env:=by rfl) (hpl:(dY pos (starEach es X.env)).any (·.1)=false:=by rfl):PE X (.Call (.Name x p) (e::es) [] pos) (tCallX cl RX sp t):=by
 obtain⟨f,fd,ps,hm,hk,hb,ok⟩:=G.ok
 intro pins s σ H Q I h
 refine wpAny_Call_Name_kw (z8b I hg hm ?_ hdb)
 refine dm (h₀:=X.base) I.ok.mod.kin hk (thn (ha pos pins s σ H _ I h) fun us s1 ⟨vs,H1,I1,r,q⟩=>⟨I1.kIn,?_⟩) he hpl
 exact run_fnX ok hr hb hW I1 r q
/-- the reading of such a call by trees -/
def tX(K:aa)(RX:XR)(F:DS->Option XO):TE:=fun σ H Q=>∃δ o,RepS K H noB σ δ∧F δ=some o∧(match o with
 |.val d=>∀v H' A,Same H H'->Tree K H' d v A->A.Nodup->(∀a∈A,H a=none)->Q v H'
 |.exc c=>∀H',Same H H'->RX c σ H')
def z5v(m:List D->Option XO)(fl:List DE):DS->Option XO:=fun δ=>(z0k fl δ).bind m
theorem y2R{m:List D->Option XO}{fl:List DE}(G:DefX X.prog X.w X.K X.mg X.base k x (spX X.K cl m))(hr:Room k X.A)(hg:Gl X x)(hW:XW X cl RX)(ha:PAD X (e::es) fl)(hdb:(x==("__debug__" : Str))=false:=by decide)
  (he:starEach (e::es) X.env=(false,eval e X.env)::starEach es X.env:=by rfl) (hpl:(dY pos (starEach es X.env)).any (·.1)=false:=by rfl):PE X (.Call (.Name x p) (e::es) [] pos) (tX X.K RX (z5v m fl)):=
 (y5j G hr hg hW ha hdb he hpl).imp fun σ H Q ⟨δ,o,S,q,kk⟩=>by
  unfold z5v at q
  cases e1:z0k fl δ with
  |none=>rw[e1]at q;cases q
  |some ds=>
   rw[e1,af]at q
   refine⟨noB,δ,ds,.no,S,e1,fun vs H1 s1 r1=>⟨ds,o,r1,q,?_⟩⟩
   cases o with
   |val d=>exact fun v H' A s' t nd fr=>kk v H' A (s1.trans s') t nd fun a ha=>s1.free (fr a ha)
   |exc c=>exact fun H' s'=>⟨c,rfl,kk H' (s1.trans s')⟩
variable{H0:Hp}{B0:Addr->Prop}{fr:Bool}{F:DS->Option XO}
def retX(F:DS->Option XO):SS->Option Out:=fun δ=>(F (z0i δ)).map fun o=>match o with
 |.val d=>.rt d
 |.exc c=>.ex c δ
def y0p(F:DS->Option XO):SS->Option Out:=fun δ=>(F (z0i δ)).map fun o=>match o with
 |.val _=>.nx δ
 |.exc c=>.ex c δ
def asgX(i:Nat)(F:DS->Option XO):SS->Option Out:=fun δ=>(F (z0i δ)).map fun o=>match o with
 |.val d=>.nx (δ.set i (some (.ow d)))
 |.exc c=>.ex c δ
theorem s_exprX(h:PE X e (tX X.K RX F))(hs:swapsWith e none pos.line X.env=pure false:=by rfl):PS X (.Expr e pos) (tS X.K H0 B0 fr RX (y0p F)):=PS.imp (z2P h hs) fun D σ H ⟨δ,R,o,rs,q,k⟩=>by
 unfold y0p at q
 cases e1:F (z0i δ)with
 |none=>rw[e1]at q;cases q
 |some o1=>
  rw[e1]at q
  refine⟨z0i δ,o1,rs.all,e1,?_⟩
  cases o1 with
  |val d=>
   cases q
   exact fun v H' A s t nd fr'=>k σ H' R (rs.mono s) (Stp.same s)
  |exc c=>
   cases q
   exact fun H' s=>k σ H' R (rs.mono s) (.same s)
end
end L2

/-! ### E27: except C: suite -/
namespace L2
open PySem PySem.Spec PyProof.Rows
/-- within an except suite;no exception leaves it -/
abbrev Cx.suite(X:Cx)(e:Value):Cx:={ X with A:=X.A.mark (some e),calm:=false,xe:=fun _ _=>False }
section
variable{X:Cx}{pins:List (Addr×Obj)}{σ:St}{H:Hp}{s:dw}{e:Value}
theorem Cx.Ok.suite(ok:X.Ok)(e:Value):(X.suite e).Ok:=
 ⟨ok.mod,ok.kind,ok.glob,ok.blt,ok.above,ok.inj,ok.has,ok.cab,(fun z=>Bool.noConfusion z),ok.frames,ok.stk,ok.exf,ok.bs,ok.bsz,ok.noex,ok.exfs,ok.funs,ok.frf⟩
theorem Inv.suite(I:Inv X pins σ H s)(e:Value):Inv (X.suite e) pins σ H s:=⟨I.ok.suite e,I.os,I.bare,I.base,I.loc,I.cell,I.free,I.freeC,I.pin,I.hok,I.len⟩
end
section
variable{X:Cx}{cls:Value}{t:TS}
def PH(X:Cx)(hs:List ExceptHandler)(cls:Value)(t:TS):Prop:=∀(pins:List (Addr×Obj)) (s:dw) (σ:St) (H:Hp) (D:Ends) (ea T:Addr),Inv X pins σ H s->FpX X pins H ea->Thr s.heap ea T cls->t D σ H->wpAny (model X.prog X.w) X.A (handleBy (.ref ea) X.env hs) (SP X pins D) X.xe s
end
end L2

/-! ### E28: try: .. except ..: -/
namespace L2
open PySem PySem.Spec PyProof.Rows
section
end
def tryO(gb:SS->Option Out)(gh:Nat->SS->Option Out):SS->Option Out:=fun δ=>(gb δ).bind fun o=>match o with
 |.nx δ'=>some (.nx δ')
 |.ct δ'=>some (.ct δ')
 |.bk δ'=>some (.bk δ')
 |.rt d=>some (.rt d)
 |.rb d δ'=>some (.rb d δ')
 |.ex c δ'=>gh c δ'
section
end
end L2

/-! ### E29: x=y,where y owns its list and is not read again ahead of its next assignment -/
namespace L2
open PySem PySem.Spec PyProof.Rows
section
variable{δ:SS}
def movS(i j:Nat)(d:D)(δ:SS):SS:=((z0r j δ).set j none).set i (some (.ow d))
end
section
def movO(i j:Nat):SS->Option Out:=fun δ=>match δ[j]? with
 |some (some (.ow d))=>some (.nx (movS i j d δ))
 |_=>none
end
end L2

/-! ### E30: for x in reversed(xs),xs a list;a def that is never come to -/
namespace L2
open PySem PySem.Spec PyProof.Rows
section
end
def revS:D->Option (List D)
 |.lst ds=>some ds.reverse
 |_=>none
def dRevS(f:DE):DS->Option (List D):=fun δ=>(f δ).bind revS
section
end
end L2

/-! ### E31: loops that only look: for x in xs: if ..: return .. (xs may be owned,and stays so) -/
namespace L2
open PySem PySem.Spec PyProof.Rows
def chkIf(fc:DS->Option Bool)(fe:DE):DS->Option (Option D):=fun δ=>(fc δ).bind fun b=>if b=true then(fe δ).bind fun d=>if d.imm=true then some (some d)else none else some none
def y6h(f g:DS->Option (Option D)):DS->Option (Option D):=fun δ=>(f δ).bind fun o=>match o with
 |none=>g δ
 |some d=>some (some d)
section
end
def chkD(i:Nat)(fb:DS->Option (Option D)):List D->SS->Option Out
 |[],δ=>some (.nx δ)
 |x::r,δ=>(fb (z0i (δ.set i (some (.sh x))))).bind fun o=>match o with
  |none=>chkD i fb r (δ.set i (some (.sh x)))
  |some d=>if d.imm=true then some (.rt d)else none
def forC(i:Nat)(fi:DS->Option (List D))(fb:DS->Option (Option D)):SS->Option Out:=fun δ=>(fi (z0i δ)).bind fun ds=>if z0L ds=true then chkD i fb ds δ else none
section
end
end L2

/-! ### E32: classes of the program under ValueError -/
namespace L2
open PySem PySem.Spec PyProof.Rows
abbrev bmVE:List Value:=[.type "ValueError",.type "Exception",.type "BaseException",.type "object"]
theorem own_mk{K:aa}{h:Heap}{mg:Str->Option Value}{x:Str}{C:Addr}{bl:List Value}{nid:String}(X:K.In h)(G:h.Ns mainGlobals mg)(ha:aB K mainGlobals x=some (some (.ref C)))(hq:c5 K C bl nid=true):OwnCls x C bl nid mg h:=by
 refine⟨cD X G ha,?_⟩
 unfold c5 at hq
 cases hk:K.lookup C with
 |none=>rw[hk]at hq;cases hq
 |some ob=>
  rw[hk]at hq
  have hat:=X _ _ hk
  split at hq
  case h_2=>cases hq
  case h_1 od cls sl z=>
   cases z
   split at hq
   case h_2=>cases hq
   case h_1 C1 tl b0 b1 b2 b3 n b5 em es=>
    simp only[aF,beq_iff_eq,Bool.not_eq_true']at hq
    obtain⟨⟨⟨⟨⟨z1,z2⟩,z3⟩,z4⟩,z5⟩,z6⟩:=hq
    cases cls with
    |mk nm bs mro ns qn hd sn sub ab col del=>
     cases sl with
     |mk l=>
      dsimp only at em es z3 z5 z6
      rw[em,es,z3,z1,z2]at hat
      exact⟨tl,ns,nm,qn,bs,hd,sn,sub,ab,col,od,b0,b1,b2,b3,b5,_,hat,.of_isNs (PySem.W.isNs_of_in X z5),PySem.W.nsMap_none_of_in X z5 z6,PySem.W.tail_of_in X z4⟩
section
variable{X:Cx}{x:Str}{C:Addr}{np cpos pos:Pos}{e₀:Expr}{H0:Hp}{B0:Addr->Prop}{fr:Bool}{RX:XR}
theorem z6b{c:Nat}{f:DE}(hc:X.calm=true)(hg:Gl X x)(O:OwnCls x C bmVE "ValueError.__new__" X.mg X.base)(hW:Want X C (RX c))(h:PD X e₀ f)
  (he:starEach [e₀] X.env=[(false,eval e₀ X.env)]:=by rfl) (hd:(x==("__debug__" : Str))=false:=by decide):PS X (.Raise (some (.Call (.Name x np) [e₀] [] cpos)) none pos) (tS X.K H0 B0 fr RX (z3U c f)):=
 s_raise hc hg O PySem.F.excBase_ValueError (by decide) PySem.F.excBase_ValueError hW h he hd
end
end L2

/-! ### E33: a call that may raise,where it does not -/
namespace L2
open PySem PySem.Spec PyProof.Rows
def valO:Option XO->Option D
 |some (.val d)=>some d
 |_=>none
def z6U(m:List D->Option XO)(fl:List DE):DE:=fun δ=>valO (z5v m fl δ)
section
variable{X:Cx}{k:Nat}{cl:Nat->Value}{x:Str}{p pos:Pos}{e:Expr}{es:List Expr}
theorem xw_no:XW X cl noX:=fun _ _ _ _ _ _ _ _ _ _ _ h=>h.elim
theorem z9b{m:List D->Option XO}{fl:List DE}(G:DefX X.prog X.w X.K X.mg X.base k x (spX X.K cl m))(hr:Room k X.A)(hg:Gl X x)(ha:PAD X (e::es) fl)(hdb:(x==("__debug__" : Str))=false:=by decide)
  (he:starEach (e::es) X.env=(false,eval e X.env)::starEach es X.env:=by rfl) (hpl:(dY pos (starEach es X.env)).any (·.1)=false:=by rfl):PN X (.Call (.Name x p) (e::es) [] pos) (z6U m fl):=
 (y2R (RX:=noX) G hr hg xw_no ha hdb he hpl).imp fun σ H Q ⟨δ,d,S,q,kk⟩=>by
  unfold z6U at q
  cases e1:z5v m fl δ with
  |none=>rw[e1]at q;cases q
  |some o=>
   rw[e1]at q
   cases o with
   |exc c=>cases q
   |val d'=>
    cases q
    exact⟨δ,.val d,S,e1,kk⟩
end
end L2

/-! ### E34: except C as e;isinstance(e,C) -/
namespace L2
open PySem PySem.Spec PyProof.Rows
section
end
section
end
section
variable{H:Hp}{σ:St}{δ:SS}
def unO(i:Nat):Out->Option Out
 |.nx δ=>some (.nx (δ.set i none))
 |.bk δ=>some (.bk (δ.set i none))
 |.ct δ=>some (.ct (δ.set i none))
 |.rt d=>some (.rt d)
 |.rb d δ=>some (.rb d (δ.set i none))
 |.ex _ _=>none
def asXO(i:Nat)(x:Str)(g:SS->Option Out):SS->Option Out:=fun δ=>(g (δ.set i (some (.sh (.exc x))))).bind (unO i)
theorem PH.imp{X:Cx}{hs:List ExceptHandler}{cls:Value}{t t':TS}(h:PH X hs cls t)(w:∀D σ H,t' D σ H->t D σ H):PH X hs cls t':=fun pins s σ H D ea T I fe th q=>h pins s σ H D ea T I fe th (w D σ H q)
end
/-! isinstance(e,C) -/
section
end
section
end
end L2

/-! ### E35: a list of new things;return [x,y] -/
namespace L2
open PySem PySem.Spec PyProof.Rows
def tNs(K:aa)(f:DS->Option (List D)):TA:=fun σ H Q=>∃δ ds,RepS K H noB σ δ∧f δ=some ds∧∀vs H' A,Same H H'->Trees K H' ds vs A->A.Nodup->(∀a∈A,H a=none)->Q vs H'
abbrev PAN(X:Cx)(es:List Expr)(fl:List DE):Prop:=PA X es (tNs X.K (z0k fl))
theorem Trees.len{K:aa}{H:Hp}:∀{ds:List D} {xs:List V} {A:List Addr},Trees K H ds xs A->ds.length=xs.length
 |[],_,_,h=>by unfold Trees at h;rw[h.1];rfl
 |d::ds,_,_,h=>by
  unfold Trees at h
  obtain⟨x,r,C,C',rfl,_,h2,_⟩:=h
  simp[Trees.len h2]
section
variable{X:Cx}{e:Expr}{es:List Expr}{pos:Pos}
theorem y1v:PAN X [] []:=pa_nil.imp fun σ H Q ⟨δ,ds,S,q,k⟩=>by
 cases q
 exact k [] H [] (.refl H) ⟨rfl,rfl⟩ aY (fun a z=>nomatch z)
theorem z4o{f:DE}{fl:List DE}(ha:PN X e f)(hr:PAN X es fl)(hs:starEach (e::es) X.env=(false,eval e X.env)::starEach es X.env:=by rfl):PAN X (e::es) (f::fl):=(z1v ha hr hs).imp fun σ H Q ⟨δ,ds,S,q,k⟩=>by
 obtain⟨x,xs,e1,e2,rfl⟩:=z3I q
 refine⟨δ,x,S,e1,fun v H1 A s1 t1 nd1 f1=>⟨δ,xs,S.mono s1,e2,fun vs H2 C s2 t2 nd2 f2=>?_⟩⟩
 refine k (v::vs) H2 (A++C) (s1.trans s2) ?_ ?_ fun a ha=>?_
 ·unfold Trees
  exact⟨v,vs,A,C,rfl,t1.mono s2,t2,rfl⟩
 ·refine ay.mpr ⟨nd1,nd2,fun a ha b hb z=>?_⟩
  subst z
  obtain⟨o,q',_⟩:=t1.held x a ha
  rw[f2 a hb]at q';cases q'
 ·rcases aw.mp ha with z | z
  ·exact f1 a z
  ·exact s1.free (f2 a z)
theorem y4r{fl:List DE}(h:PAN X es fl)(hl:fl.length≤1000:=by decide):PN X (.List es pos) (mkL (z0k fl)):=(y3Q h).imp fun σ H Q ⟨δ,d,S,q,k⟩=>by
 unfold mkL at q
 cases r:z0k fl δ with
 |none=>rw[r]at q;cases q
 |some ds=>
  rw[r]at q
  cases q
  refine⟨δ,ds,S,r,fun vs H1 A s1 t1 nd fa=>⟨?_,fun p hp=>?_⟩⟩
  ·rw[←t1.len,z1R r]
   exact b6 (z4C hl)
  ·have sp:=z0t (o:=.lst vs) hp
   refine k (.ref p) _ (p::A) (s1.trans sp) ?_ (am.mpr ⟨fun z=>?_,nd⟩) fun a ha=>?_
   ·unfold Tree
    exact⟨p,vs,A,rfl,z0s,t1.mono sp,rfl⟩
   ·obtain⟨o,q',_⟩:=Trees.held ds t1 p z
    rw[hp]at q';cases q'
   ·rcases aq.mp ha with z | z
    ·rw[z];exact s1.free hp
    ·exact fa a z
variable{H0:Hp}{B0:Addr->Prop}{a:Expr}
def z4m(δ:SS)(i:Nat):Option D:=match δ[i]? with
 |some (some (.ow d))=>some d
 |some (some (.sh d))=>if d.imm=true then some d else none
 |_=>none
def ret2(i j:Nat):SS->Option Out:=fun δ=>match z4m δ i,z4m δ j with
 |some d,some e=>some (.rt (.lst [d,e]))
 |_,_=>none
theorem z5S{K:aa}{H:Hp}{σ:St}{δ:SS}{R:Nat->List Addr}{i:Nat}{d:D}(rs:RS K H0 B0 H σ δ R)(h:z4m δ i=some d):∃v A,σ[i]? = some (some v)∧Tree K H d v A∧A.Nodup∧∀a∈A,a∈R i:=by
 unfold z4m at h
 split at h
 ·rename_i d' e
  cases h
  obtain⟨v,e1,t,nd⟩:=rs.ow i _ e
  exact⟨v,R i,e1,t,nd,fun a z=>z⟩
 ·rename_i d' e
  split at h
  ·rename_i hi
   cases h
   obtain⟨v,e1,r⟩:=rs.sh i _ e
   exact⟨v,[],e1,r.immTree _ hi,aY,(fun a z=>nomatch z)⟩
  ·cases h
 ·cases h
end
end L2

/-! ### E36: f(new thing,..),where f takes its first argument over -/
namespace L2
open PySem PySem.Spec PyProof.Rows
def y5Q(F:List D->Option D)(f0:DE)(fl:List DE):DE:=fun δ=>(f0 δ).bind fun d0=>(z0k fl δ).bind fun args=>if z0L args=true then F (d0::args)else none
section
end
end L2

/-! ### E37: a list times an int;f(..)[i],where f may raise -/
namespace L2
open PySem PySem.Spec PyProof.Rows
def repLs:D->D->Option (List D)
 |.lst ds,.int k=>if(0≤k∧k≤1000000)∧ds.length*k.toNat≤sizeLine then some (ad k.toNat ds).flatten else none
 |_,_=>none
def dRep(f g:DE):DS->Option (List D):=fun δ=>(f δ).bind fun x=>(g δ).bind fun y=>repLs x y
theorem Reps.rep{K:aa}{H:Hp}{B:Addr->Prop}{ds:List D}{xs:List V}(h:Reps K H B ds xs):∀n:Nat,Reps K H B (ad n ds).flatten (ad n xs).flatten
 |0=>(show Reps K H B [] [] by unfold Reps;rfl)
 |n+1=>by
  rw[aW,aW,aP,aP]
  exact h.append (Reps.rep h n)
def dIxX(F:DS->Option XO)(g:DE):DS->Option XO:=fun δ=>match F δ with
 |some (.val d)=>(g δ).bind fun y=>(ixD d y).bind fun z=>if z.imm=true then some (.val z)else none
 |some (.exc c)=>some (.exc c)
 |none=>none
section
variable{X:Cx}{a b:Expr}{pos:Pos}{f g:DE}
theorem y6A(ha:PD X a f)(hb:PD X b g):PF X (.BinOp a .Mult b pos) (dRep f g):=(pe_op op_rep ha hb).imp fun σ H Q ⟨B,δ,ds,hB,S,q,k⟩=>by
 unfold dRep at q
 cases e1:f δ with
 |none=>rw[e1]at q;cases q
 |some x=>
 rw[e1,af]at q
 cases e2:g δ with
 |none=>rw[e2]at q;cases q
 |some y=>
 rw[e2,af]at q
 unfold repLs at q
 split at q
 case h_2=>cases q
 case h_1 xs n=>
 split at q
 case isFalse=>cases q
 case isTrue hl=>
 cases q
 refine⟨B,δ,_,hB,S,e1,fun v H1 s1 r1=>⟨B,δ,_,hB.mono s1,S.mono s1,e2,fun v2 H2 s2 r2=>?_⟩⟩
 unfold Rep at r2
 subst r2
 unfold Rep at r1
 obtain⟨p1,vs,rfl,n1,h1,rs1⟩:=r1
 refine⟨p1,n,vs,rfl,rfl,s2 _ _ h1,by omega,by omega,by rw[←rs1.length];exact hl.2,fun p hp=>?_⟩
 exact k p _ _ ((s1.trans s2).trans (z0t hp)) ((s1.trans s2).free hp) z0s (((rs1.mono s2).rep _).mono (z0t hp))
end
end L2

/-! ### E38: sorted of a dict -/
namespace PySem
open Sem (wp)
section
variable{K:Type}[DecidableEq K]
end
end PySem

/-! ### E39: sorted of a dict,by trees -/
namespace L2
open PySem PySem.Spec PyProof.Rows
section
end
section
end
end L2

/-! ### E40: {k: v} of ints;range(a,b,-1);f(..)[i] of new lists -/
namespace L2
open PySem PySem.Spec PyProof.Rows
def mkD1:D->D->Option D
 |.int a,.int b=>some (.dct [.inl a] [.int b])
 |_,_=>none
def dDisp1(fk fv:DE):DE:=d2 mkD1 fk fv
section
end
section
def rngN:Option D->Option D->Option D->Option (List D)
 |some (.int i),some (.int j),some (.int c)=>if c = -1∧-(2 ^ 61)≤i∧i<2 ^ 61∧-(2 ^ 61)≤j∧j<2 ^ 61 then some (rngC i (-1) (i - j).toNat)else none
 |_,_,_=>none
def dRngN(f g h:DE):DS->Option (List D):=fun δ=>rngN (f δ) (g δ) (h δ)
end
theorem Trees.at{K:aa}{H:Hp}:∀{ds:List D} {xs:List V} {A:List Addr} {k:Nat} {d:D},Trees K H ds xs A->A.Nodup->ds[k]? = some d->∃v C,xs[k]? = some v∧Tree K H d v C∧C.Nodup∧∀a∈C,a∈A
 |[],_,_,_,_,_,_,e=>by cases e
 |d::ds,xs,A,k,d',h,nd,e=>by
  unfold Trees at h
  obtain⟨x,r,C,C',rfl,h1,h2,rfl⟩:=h
  have n2:=ay.mp nd
  cases k with
  |zero=>cases e;exact⟨x,C,rfl,h1,n2.1,fun a ha=>aw.mpr (.inl ha)⟩
  |succ k=>
   obtain⟨v,D',e1,t1,nd1,sb⟩:=Trees.at (k:=k) h2 n2.2.1 (by simpa using e)
   exact⟨v,D',by simpa using e1,t1,nd1,fun a ha=>aw.mpr (.inr (sb a ha))⟩
def ixL:D->D->Option D
 |.lst ds,.int i=>atI ds i
 |_,_=>none
section
end
end L2

/-! ### E41: for x,y in enumerate(xs) -/
namespace L2
open PySem PySem.Spec PyProof.Rows
def twoD:D->Option (D×D)
 |.tup [a,b]=>some (a,b)
 |_=>none
theorem y2m{d:D}{z:D×D}(h:twoD d=some z):d = .tup [z.1,z.2]:=by
 unfold twoD at h
 split at h
 ·cases h;rfl
 ·cases h
def z3G(i j:Nat)(b:SS->Option Out):List D->SS->Option Out
 |[],δ=>some (.nx δ)
 |d::r,δ=>(twoD d).bind fun z=>(b ((δ.set i (some (.sh z.1))).set j (some (.sh z.2)))).bind fun o=>match o with
  |.nx δ'=>z3G i j b r δ'
  |.ct δ'=>z3G i j b r δ'
  |.bk δ'=>some (.nx δ')
  |.rt d=>some (.rt d)
  |.rb d δ'=>some (.rb d δ')
  |.ex c δ'=>some (.ex c δ')
def y1X(i j:Nat)(f:DS->Option (List D))(g:SS->Option Out):SS->Option Out:=fun δ=>(f (shV δ)).bind fun ds=>z3G i j g ds δ
section
variable{X:Cx}{H0:Hp}{B0:Addr->Prop}{fr:Bool}{RX:XR}{pos:Pos}
def gPair(K:aa)(i j:Nat):TG:=gTup K 2 (gCons (z2B i) (gCons (z2B j) gNil))
theorem y6i{i j:Nat}{tg:Expr}{iter:Expr}{body:List Stmt}{f:DS->Option (List D)}{g:SS->Option Out}(hp:PassesOwn (model X.prog X.w) X.A X.env X.xe)(hc:X.calm=true)(hi:PID X tg iter f)(hg:PG X tg (gPair X.K i j))(hb:PSs X body (tS X.K H0 B0 fr RX g))
  (hs:∀x,foldedSetIterable iter X.env x=pure x:=by intro _;rfl):PS X (.For tg iter body [] pos) (tS X.K H0 B0 fr RX (y1X i j f g)):=PS.imp (y1z hp hc hi hg hb hs) fun D σ H ⟨δ,R,o,rs,q,k⟩=>by
 unfold y1X at q
 cases e:f (shV δ)with
 |none=>rw[e]at q;cases q
 |some ds=>
 rw[e]at q
 have q:z3G i j g ds δ=some o:=q
 refine⟨_,shV δ,ds,rs.inAll,rs.shr,e,fun J H1 s1 itw=>?_⟩
 have rs1:=rs.mono s1
 have it:=itw (fun a=>H1 a=none) fun a z=>z
 refine⟨fun n m σ' H'=>m=ds.length - n∧n≤ds.length∧∃δ' R',RS X.K H0 B0 H' σ' δ' R'∧Stp R H1 R' H'∧z3G i j g (ds.drop n) δ'=some o,⟨ds.length,by simp,bn _,δ,R,rs1,.refl R H1,q⟩,?_⟩
 rintro n m σ' H' ⟨rfl,hn,δ',R',rs',s',q'⟩
 have kp:Keep X.K (fun a=>(B0 a∨∃r,a∈R r)∨H1 a=none) H1 H':=s'.keepB (fun r a z=>.inl (.inr ⟨r,z⟩)) rs1.held
 by_cases hlt:n<ds.length
 ·have hx:ds.drop n=ds[n]::ds.drop (n+1):=ba hlt
  rw[hx]at q'
  unfold z3G at q'
  cases et:twoD ds[n]with
  |none=>rw[et]at q';cases q'
  |some z=>
  rw[et,af]at q'
  cases eb:g ((δ'.set i (some (.sh z.1))).set j (some (.sh z.2)))with
  |none=>rw[eb]at q';cases q'
  |some ob=>
   rw[eb]at q'
   refine .inr ⟨it.go n H' kp hlt,fun σ2 H2=>n+1≤ds.length∧∃δ2 R2,RS X.K H0 B0 H2 σ2 δ2 R2∧Stp R H1 R2 H2∧z3G i j g (ds.drop (n+1)) δ2=some o,fun σ2 H2 z=>⟨ds.length - (n+1),by omega,rfl,z⟩,fun xv H2 hy=>?_⟩
   obtain⟨s2,d,hd,rd⟩:=it.yld n H' xv H2 kp hy
   have hdi:d=ds[n]:=by
    have:=hd hlt
    rw[ae hlt]at this
    exact(Option.some.inj this).symm
   subst hdi
   have rd':Rep X.K H2 (fun a=>B0 a∨∃r,a∈R' r) ds[n] xv:=rd.anti fun a z=>by
    rcases z with z | ⟨r,z⟩
    ·exact .inl (.inl z)
    ·rcases s'.from' r a z with z | z
     ·exact .inl (.inr z)
     ·exact .inr z
   rw[y2m et]at rd'
   unfold Rep at rd'
   obtain⟨p,vs,rfl,hsq,rvs⟩:=rd'
   unfold Reps at rvs
   obtain⟨va,r1,rfl,ra,rvs⟩:=rvs
   unfold Reps at rvs
   obtain⟨vb,r2,rfl,rb,rvs⟩:=rvs
   unfold Reps at rvs
   subst rvs
   refine⟨p,[va,vb],rfl,hsq,rfl,va,[vb],rfl,vb,[],rfl,rfl,?_⟩
   have rs2:=((rs'.mono s2).setSh (i:=i) ra).setSh (i:=j) rb
   have st2:Stp R H1 R' H2:=s'.trans (.same s2)
   refine⟨_,R',ob,rs2,eb,?_⟩
   cases ob with
   |nx δ2=>
    have q2:z3G i j g (ds.drop (n+1)) δ2=some o:=q'
    exact fun σ3 H3 R3 rs3 s3=>⟨hlt,δ2,R3,rs3,st2.trans s3,q2⟩
   |ct δ2=>
    have q2:z3G i j g (ds.drop (n+1)) δ2=some o:=q'
    exact fun σ3 H3 R3 rs3 s3=>⟨hlt,δ2,R3,rs3,st2.trans s3,q2⟩
   |bk δ2=>
    cases q'
    exact fun σ3 H3 R3 rs3 s3=>k σ3 H3 R3 rs3 ((Stp.same s1).trans (st2.trans s3))
   |rt d=>
    cases q'
    exact k.back ((Stp.same s1).trans st2)
   |rb d δ2=>
    cases q'
    exact k.back ((Stp.same s1).trans st2)
   |ex c δ2=>
    cases q'
    exact k.back ((Stp.same s1).trans st2)
 ·have en:n=ds.length:=by omega
  subst en
  rw[bU]at q'
  cases q'
  exact .inl ⟨it.stop _ H' kp (ak _),k σ' H' R' rs' ((Stp.same s1).trans s')⟩
theorem y4b{i j:Nat}{x y:Str}{px py tp:Pos}{x1}(hc:X.calm=true)(h1:PG X (.Name x px) (z2B i))(h2:PG X (.Name y py) (z2B j))
  (hs:(dW [.Name x px,.Name y py] X.env).map (·.2)=d4 (.Name x px) X.env::(dW [.Name y py] X.env).map (·.2):=by rfl) (hs2:(dW [.Name y py] X.env).map (·.2)=d4 (.Name y py) X.env::(dW [] X.env).map (·.2):=by rfl)
  (hn:(dW [.Name x px,.Name y py] X.env).length=2:=by rfl) (hst:(dW [.Name x px,.Name y py] X.env).findIdx? (·.1)=none:=by rfl):PG X (.Tuple [.Name x px,.Name y py] x1 tp) (gPair X.K i j):=
 pg_tup hc (z9G h1 (z9G h2 pgs_nil hs2) hs) hn hst
end
end L2

/-! ### E42: min of a list of ints -/
namespace L2
open PySem PySem.Spec PyProof.Rows
section
end
end L2

/-! ### E43: xs[a::k] -/
namespace L2
open PySem PySem.Spec PyProof.Rows
def y5X(n:Nat)(lo st:Int):List Nat:=sliceRange (min lo n) n st
def y6B:D->D->D->Option (List D)
 |.lst ds,.int lo,.int st=>if 0≤lo∧0<st then some ((y5X ds.length lo st).filterMap (ds[·]?))else none
 |.scr ns,.int lo,.int st=>if 0≤lo∧0<st then some ((y5X ns.length lo st).filterMap ((ns.map D.int)[·]?))else none
 |_,_,_=>none
def dStep(f g h:DE):DS->Option (List D):=fun δ=>(f δ).bind fun x=>(g δ).bind fun y=>(h δ).bind fun z=>y6B x y z
section
end
end L2

/-! ### E44: products of greater numbers -/
namespace L2
open PySem PySem.Spec PyProof.Rows
def bigL:Nat:=2 ^ 250
def CMulB(i j:Int):Prop:=i.natAbs<bigL∧j.natAbs<bigL
instance{i j:Int}:Decidable (CMulB i j):=by unfold CMulB;infer_instance
theorem CMulB.ok{i j:Int}(h:CMulB i j):IntMulOk i j:=by
 have h1:Builtin.Int.intBits i≤250:=intBits_le h.1
 have h2:Builtin.Int.intBits j≤250:=intBits_le h.2
 have h3:Builtin.Int.intTooBig ((Builtin.Int.intBits i:Int)+(Builtin.Int.intBits j:Int))=false:=by
  unfold Builtin.Int.intTooBig
  apply decide_eq_false
  have hb:(2000:Int)≤bitsLine:=by decide
  omega
 unfold IntMulOk
 rw[h3]
 simp
section
end
end L2

/-! ### E45: for x in range(..),the bounds read from anything;return [x,y,z] -/
namespace L2
open PySem PySem.Spec PyProof.Rows
section
variable{X:Cx}{tg iter a b:Expr}{p pos pos':Pos}
structure ItF(J:It)(lo:Int)(n:Nat):Prop where
 go:∀i H',i<n->J.go i H'
 stop:∀i H',n≤i->J.stop i H'
 yld:∀i H' x H2,J.yld i H' x H2->Same H' H2∧x = .int (lo+(i:Int))
theorem itf_rng{lo:Int}{n:Nat}:ItF (Itr lo n) lo n:=⟨fun i H' hi=>hi,fun i H' hi=>hi,fun i H' x H2 y=>by
 obtain⟨e,y⟩:=y
 subst e y
 exact⟨.refl _,rfl⟩⟩
def tIF(K:aa)(f:DS->Option (Int×Nat)):TI:=fun σ H R=>∃B δ z,InB B H∧RepS K H B σ δ∧f δ=some z∧∀J H',Same H H'->ItF J z.1 z.2->R J H'
abbrev PIF(X:Cx)(tg iter:Expr)(f:DS->Option (Int×Nat)):Prop:=PI X tg iter (tIF X.K f)
def dIv1(f:DE):DS->Option (Int×Nat):=fun δ=>match f δ with
 |some (.int j)=>if -(2 ^ 62)≤j∧j<2 ^ 62 then some (0,j.toNat)else none
 |_=>none
def dIv2(f g:DE):DS->Option (Int×Nat):=fun δ=>match f δ,g δ with
 |some (.int i),some (.int j)=>if -(2 ^ 62)≤i∧i<2 ^ 62∧-(2 ^ 62)≤j∧j<2 ^ 62 then some (i,(j - i).toNat)else none
 |_,_=>none
theorem z6j{f:DE}(hg:Gl X "range")(hm:X.mg "range" = none)(ha:PD X a f)(hs:starEach [a] X.env=[(false,eval a X.env)]:=by rfl):PIF X tg (.Call (.Name "range" p) [a] [] pos) (dIv1 f):=
 (z7t hg hm (z0a ha z0d hs) hs).imp fun σ H R ⟨B,δ,ds,hB,S,q,k⟩=>by
  unfold dIv1 at q
  split at q
  ·rename_i j e
   split at q
   ·rename_i hj
    cases q
    have ea:z0k [f] δ=some [.int j]:=by unfold z0k;rw[e];rfl
    refine⟨B,δ,[.int j],hB,S,ea,fun vs H1 s1 r1=>?_⟩
    unfold Reps at r1
    obtain⟨x,r,rfl,rx,rr⟩:=r1
    unfold Reps at rr
    subst rr
    exact⟨j,by rw[show x=V.int j from rx],hj.1,hj.2,k _ H1 s1 itf_rng⟩
   ·cases q
  ·cases q
def forI(i:Nat)(f:DS->Option (Int×Nat))(b:SS->Option Out):SS->Option Out:=fun δ=>(f (z0i δ)).bind fun z=>z3n i b (z4h z.1 z.2) δ
variable{H0:Hp}{B0:Addr->Prop}{fr:Bool}{RX:XR}
theorem y1J{i:Nat}{x:Str}{px:Pos}{body:List Stmt}{f:DS->Option (Int×Nat)}{g:SS->Option Out}(hp:PassesOwn (model X.prog X.w) X.A X.env X.xe)(hc:X.calm=true)(hi:PIF X (.Name x px) iter f)(hg:PG X (.Name x px) (z2B i))(hb:PSs X body (tS X.K H0 B0 fr RX g))
  (hs:∀x,foldedSetIterable iter X.env x=pure x:=by intro _;rfl):PS X (.For (.Name x px) iter body [] pos) (tS X.K H0 B0 fr RX (forI i f g)):=PS.imp (y1z hp hc hi hg hb hs) fun D σ H ⟨δ,R,o,rs,q,k⟩=>by
 unfold forI at q
 cases e:f (z0i δ)with
 |none=>rw[e]at q;cases q
 |some z=>
 rw[e]at q
 obtain⟨ds,hds⟩:∃ds,ds=z4h z.1 z.2:=⟨_,rfl⟩
 have hlen:ds.length=z.2:=by rw[hds,z2p]
 have q:z3n i g ds δ=some o:=by rw[hds];exact q
 refine⟨noB,z0i δ,z,.no,rs.all,e,fun J H1 s1 it=>?_⟩
 have rs1:=rs.mono s1
 refine⟨fun n m σ' H'=>m=ds.length - n∧n≤ds.length∧∃δ' R',RS X.K H0 B0 H' σ' δ' R'∧Stp R H1 R' H'∧z3n i g (ds.drop n) δ'=some o,⟨ds.length,by simp,bn _,δ,R,rs1,.refl R H1,q⟩,?_⟩
 rintro n m σ' H' ⟨rfl,hn,δ',R',rs',s',q'⟩
 by_cases hlt:n<ds.length
 ·have hx:ds.drop n=ds[n]::ds.drop (n+1):=ba hlt
  rw[hx]at q'
  unfold z3n at q'
  cases eb:g (δ'.set i (some (.sh ds[n])))with
  |none=>rw[eb]at q';cases q'
  |some ob=>
   rw[eb]at q'
   refine .inr ⟨it.go n H' (by omega),fun σ2 H2=>n+1≤ds.length∧∃δ2 R2,RS X.K H0 B0 H2 σ2 δ2 R2∧Stp R H1 R2 H2∧z3n i g (ds.drop (n+1)) δ2=some o,fun σ2 H2 z=>⟨ds.length - (n+1),by omega,rfl,z⟩,fun xv H2 hy=>?_⟩
   obtain⟨s2,hd⟩:=it.yld n H' xv H2 hy
   have hdi:ds[n] = .int (z.1+(n:Int)):=by
    have h1:ds[n]? = some (.int (z.1+(n:Int))):=by rw[hds];exact z9D (by omega)
    rw[ae hlt]at h1
    exact Option.some.inj h1
   have rd':Rep X.K H2 (fun a=>B0 a∨∃r,a∈R' r) ds[n] xv:=by
    rw[hdi]
    exact hd
   have rs2:=(rs'.mono s2).setSh (i:=i) rd'
   have st2:Stp R H1 R' H2:=s'.trans (.same s2)
   refine⟨_,R',ob,rs2,eb,?_⟩
   cases ob with
   |nx δ2=>
    have q2:z3n i g (ds.drop (n+1)) δ2=some o:=q'
    exact fun σ3 H3 R3 rs3 s3=>⟨hlt,δ2,R3,rs3,st2.trans s3,q2⟩
   |ct δ2=>
    have q2:z3n i g (ds.drop (n+1)) δ2=some o:=q'
    exact fun σ3 H3 R3 rs3 s3=>⟨hlt,δ2,R3,rs3,st2.trans s3,q2⟩
   |bk δ2=>
    cases q'
    exact fun σ3 H3 R3 rs3 s3=>k σ3 H3 R3 rs3 ((Stp.same s1).trans (st2.trans s3))
   |rt d=>
    cases q'
    exact k.back ((Stp.same s1).trans st2)
   |rb d δ2=>
    cases q'
    exact k.back ((Stp.same s1).trans st2)
   |ex c δ2=>
    cases q'
    exact k.back ((Stp.same s1).trans st2)
 ·have en:n=ds.length:=by omega
  subst en
  rw[bU]at q'
  cases q'
  exact .inl ⟨it.stop _ H' (by omega),k σ' H' R' rs' ((Stp.same s1).trans s')⟩
/-! return [x,y,z] -/
def ret3(i j l:Nat):SS->Option Out:=fun δ=>match z4m δ i,z4m δ j,z4m δ l with
 |some d,some e,some f=>some (.rt (.lst [d,e,f]))
 |_,_,_=>none
variable{c:Expr}
theorem s_ret3{i j l:Nat}(hij:i≠j)(hil:i≠l)(hjl:j≠l)(ha:PE X a (z5m i))(hb:PE X b (z5m j))(hc:PE X c (z5m l))(hs:starEach [a,b,c] X.env=(false,eval a X.env)::starEach [b,c] X.env:=by rfl)(hs2:starEach [b,c] X.env=(false,eval b X.env)::starEach [c] X.env:=by rfl)(hs3:starEach [c] X.env=(false,eval c X.env)::starEach [] X.env:=by rfl):
  PS X (.Return (some (.List [a,b,c] pos')) pos) (tS X.K H0 B0 true RX (ret3 i j l)):=PS.imp (z9s (y3Q (z1v ha (z1v hb (z1v hc pa_nil hs3) hs2) hs))) fun D σ H ⟨δ,R,o,rs,q,k⟩=>by
 unfold ret3 at q
 split at q
 ·rename_i d e f h1 h2 h3
  cases q
  obtain⟨v,A,e1,t1,n1,m1⟩:=z5S rs h1
  obtain⟨w,C,e2,t2,n2,m2⟩:=z5S rs h2
  obtain⟨u,G,e3,t3,n3,m3⟩:=z5S rs h3
  refine⟨v,e1,w,e2,u,e3,by show 3≤sizeLine;rw[sizeLine_eq];omega,fun p hp=>?_⟩
  have sp:=z0t (o:=.lst [v,w,u]) hp
  have hold:∀x,x∈A++(C++G)->H x≠none:=fun x hx z=>by
   rcases aw.mp hx with y | y
   ·obtain⟨o,q,_⟩:=t1.held _ x y
    rw[z]at q;cases q
   rcases aw.mp y with y | y
   ·obtain⟨o,q,_⟩:=t2.held _ x y
    rw[z]at q;cases q
   ·obtain⟨o,q,_⟩:=t3.held _ x y
    rw[z]at q;cases q
  have nd:(A++(C++G)).Nodup:=by
   refine ay.mpr ⟨n1,ay.mpr ⟨n2,n3,fun x hx y hy z=>?_⟩,fun x hx y hy z=>?_⟩
   ·subst z
    exact hjl (rs.disj j l x (m2 x hx) (m3 x hy))
   ·subst z
    rcases aw.mp hy with y | y
    ·exact hij (rs.disj i j x (m1 x hx) (m2 x y))
    ·exact hil (rs.disj i l x (m1 x hx) (m3 x y))
  refine k (.ref p) _ ⟨rs.keep.trans sp,fun _=>⟨p::(A++(C++G)),?_,am.mpr ⟨fun z=>hold p z hp,nd⟩,fun x hx=>?_⟩,fun z=>by cases z⟩ fun x z=>sp.free z
  ·unfold Tree
   refine⟨p,[v,w,u],A++(C++G),rfl,z0s,?_,rfl⟩
   unfold Trees
   refine⟨v,[w,u],A,C++G,rfl,t1.mono sp,?_,rfl⟩
   unfold Trees
   refine⟨w,[u],C,G,rfl,t2.mono sp,?_,rfl⟩
   unfold Trees
   exact⟨u,[],G,[],rfl,t3.mono sp,⟨rfl,rfl⟩,by simp⟩
  ·rcases aq.mp hx with z | z
   ·rw[z];exact rs.keep.free hp
   ·rcases aw.mp z with z | z
    ·exact rs.new i x (m1 x z)
    rcases aw.mp z with z | z
    ·exact rs.new j x (m2 x z)
    ·exact rs.new l x (m3 x z)
 ·cases q
end
end L2

/-! ### E46: new lists of new things put together -/
namespace L2
open PySem PySem.Spec PyProof.Rows
section
end
end L2

/-! ### E47: t[lo:hi] of a tuple,also the whole of it;max of a list of ints -/
namespace HT
open PySem PySem.Spec PyProof.Rows
section
end
end HT
namespace L2
open PySem PySem.Spec PyProof.Rows
section
variable{a:Expr}{lo hi:Option Expr}
def dCutT(f:DE)(fl fh:DS->Option (Option Int)):DE:=fun δ=>match f δ with
 |some (.tup ds)=>(fl δ).bind fun lo=>(fh δ).map fun hi=>.tup (z7w ds lo hi)
 |_=>none
/-! max of a list -/
end
end L2

/-! ### E48: the tables of sets: their places rise as long as they are plain -/
namespace PySem
namespace SetTable
def Up(xs:Array Nat):Prop:=xs.toList.Pairwise (· < ·)
end SetTable
/-- what is known of a set's table -/
def TI(t:SetTable):Prop:=t.led=true∧(t.plain=true->SetTable.Up t.place)
end PySem

/-! ### E49: set(xs) of ints,with what is known of its table -/
namespace PySem
section
variable{prog:dN}{w:dO}{K:Type}[DecidableEq K](knd:KeyKind prog w K)
variable{knd}
end
section
open PyProof.Rows in
end
end PySem

/-! ### E50: set(xs),the call -/
namespace PySem
section
open PyProof.Rows in
set_option maxHeartbeats 3200000 in
open PyProof.Rows in
end
end PySem

/-! ### E51: going through a set -/
namespace PySem
section
end
section
end
end PySem

/-! ### E52: a set's iterator -/
namespace PySem
def Heap.SIt(g:Heap)(I a:Addr)(first:Value)(i n ep:Nat):Prop:=∃ob,g.get? I=some ob∧ob.cls = .type "set_iterator" ∧ ob.data = .fields #[first,.int i 0,.ref a,.int n 0,.int ep 0]
section
end
end PySem

/-! ### E53: collect of a set of ints -/
namespace PySem
section
end
end PySem

/-! ### E54: collect of a set -/
namespace PySem
open Sem (wp)
section
variable{K:Type}[DecidableEq K]
end
end PySem

/-! ### E55: sorted(set(xs)),xs a list of ints -/
namespace L2
open PySem PySem.Spec PyProof.Rows
def ddI(ns:List Int):List Int:=ns.foldl (fun acc n=>if acc.any (· == n)then acc else acc++[n]) []
section
end
section
def y7w:D->Option (List D)
 |.lst ds=>(ints' ds).bind fun ns=>if ns.length≤1000∧(ddI ns).length<64 then some ((srtI (ddI ns)).map .int)else none
 |_=>none
def dSortS(f:DE):DS->Option (List D):=fun δ=>(f δ).bind y7w
end
end L2

/-! ### E56: lists put together,the script among them -/
namespace L2
open PySem PySem.Spec PyProof.Rows
section
variable{f g:DE}
def seqL:D->Option (List D)
 |.lst ds=>some ds
 |.scr ns=>some (ns.map .int)
 |_=>none
def catSs:D->D->Option (List D):=fun x y=>(seqL x).bind fun ds=>(seqL y).bind fun es=>if ds.length+es.length≤sizeLine then some (ds++es)else none
def dCatS(f g:DE):DS->Option (List D):=fun δ=>(f δ).bind fun x=>(g δ).bind fun y=>catSs x y
end
end L2

/-! ### E57: isinstance(x,str) -/
namespace L2
open PySem PySem.Spec PyProof.Rows
section
end
end L2

/-! ### E58: len(set(xs)),xs a list of ints -/
namespace L2
open PySem PySem.Spec PyProof.Rows
section
end
end L2

/-! ### E59: tuples put together -/
namespace L2
open PySem PySem.Spec PyProof.Rows
section
end
end L2

/-! ### E60: `if not f(..):` where f may raise -/
namespace L2
open PySem PySem.Spec PyProof.Rows
section
variable{c:Expr}{F:DS->Option XO}{g h:SS->Option Out}
def ifNX(F:DS->Option XO)(g h:SS->Option Out):SS->Option Out:=fun δ=>(F (z0i δ)).bind fun o=>match o with
 |.val (.bl k)=>if k=true then h δ else g δ
 |.exc c=>some (.ex c δ)
 |_=>none
end
end L2

/-! ### E61: C(e) of a class of the program under ValueError,as a new thing -/
namespace L2
open PySem PySem.Spec PyProof.Rows
section
end
end L2

/-! ### E62: for x in f(..) where f may raise -/
namespace L2
open PySem PySem.Spec PyProof.Rows
section
variable{F:DS->Option XO}
def forXO(i:Nat)(F:DS->Option XO)(g:SS->Option Out):SS->Option Out:=fun δ=>(F (z0i δ)).bind fun o=>match o with
 |.val (.lst ds)=>z3n i g ds δ
 |.exc c=>some (.ex c δ)
 |_=>none
end
end L2

/-! ### E63: a def that takes over its second argument;return [x] -/
namespace L2
open PySem PySem.Spec PyProof.Rows
section
end
def dCallM2(F:List D->Option D)(f0 f1:DE)(fl:List DE):DE:=fun δ=>(f0 δ).bind fun a=>(f1 δ).bind fun b=>(z0k fl δ).bind fun cs=>F (a::b::cs)
section
def ret1(i:Nat):SS->Option Out:=fun δ=>(z4m δ i).map fun d=>.rt (.lst [d])
end
end L2

/-! ### E64: x.append(y) where y owns its list and is not read again ahead of its next assignment;written lists of lists of ints -/
namespace L2
open PySem PySem.Spec PyProof.Rows
section
variable{δ:SS}
def givS(i j:Nat)(d:D)(δ:SS):SS:=((z0r i (z0r j δ)).set j none).set i (some (.ow d))
end
section
def appO(i j:Nat):SS->Option Out:=fun δ=>match δ[j]?,δ[i]? with
 |some (some (.ow d)),some (some (.ow (.lst ds)))=>(z8H ds [d]).map fun ds'=>.nx (givS i j (.lst ds') δ)
 |_,_=>none
end
/-! written lists of lists of ints -/
section
variable{X:Cx}
/-- a statement,a body: as PS and PSs,but never opened while terms are made (a written list is opened far too far) -/
@[irreducible] def PSb(X:Cx)(st:Stmt)(t:TS):Prop:=PS X st t
@[irreducible] def PSsb(X:Cx)(st:List Stmt)(t:TS):Prop:=PSs X st t
end
section
end
end L2

/-! ### E65: x[k].clear() -/
namespace L2
open PySem PySem.Spec PyProof.Rows
section
variable{X:Cx}{H0:Hp}{B0:Addr->Prop}{fr:Bool}{RX:XR}{x:Str}{px p2 ap cp pos:Pos}{ke:Expr}{fk:DE}
theorem z8i{i:Nat}(hx:PE X (.Name x px) (z5m i))(hk:PD X ke fk)(hpi:z4q ke:=by intro _ _;rfl)
  (hbase:dS (.Subscript (.Name x px) ke p2) "clear" X.env (eval (.Subscript (.Name x px) ke p2) X.env)=eval (.Subscript (.Name x px) ke p2) X.env:=by rfl) (hline:(ap.endLine==cp.line)=true:=by rfl)
  (hsw:swapsWith (.Call (.Attribute (.Subscript (.Name x px) ke p2) "clear" ap) [] [] cp) none pos.line X.env=pure false:=by rfl):
  PS X (.Expr (.Call (.Attribute (.Subscript (.Name x px) ke p2) "clear" ap) [] [] cp) pos) (tS X.K H0 B0 fr RX (m1 i fk clrF [])):=
 PS.imp (z2P (y6z PySem.F.plainAttrs_list PySem.F.slot_list_clear PySem.F.type_list_clear z8u (y4W ix_list hx hk hpi) hbase hline) hsw) fun D σ H h=>by
  obtain⟨v,ev,B,δ,d,hB,S,e1,k1⟩:=m1_core (z8r (K:=X.K)) D σ H h
  refine⟨v,ev,B,δ,d,hB,S,e1,fun v1 H1 s1 r1=>?_⟩
  obtain⟨a,xs,k,w,hv,hv1,hq,hat,hty,B',δ',ds,hB',S',e',kk⟩:=k1 v1 H1 s1 r1
  cases e'
  exact⟨a,xs,k,w,hv,hv1,hq,hat,hty,kk [] H1 (.refl H1) .nil⟩
end
end L2

/-! ### E66: xs.extend(ys) of a shared ys whose items cannot change;written lists of tuples of ints -/
namespace L2
open PySem PySem.Spec PyProof.Rows
section
variable{X:Cx}{H0:Hp}{B0:Addr->Prop}{fr:Bool}{RX:XR}{e:Expr}{f:DE}{pos ap cp:Pos}{x:Str}{px:Pos}
def y4a(i:Nat)(f:DE):SS->Option Out:=fun δ=>(f (z0i δ)).bind fun d=>(match d,δ[i]? with
 |.lst es,some (some (.ow (.lst ds)))=>if z0L es=true∧ds.length+es.length≤sizeLine then some (.nx ((z0r i δ).set i (some (.ow (.lst (ds++es))))))else none
 |_,_=>none)
theorem y1f{i:Nat}(hx:PE X (.Name x px) (z5m i))(he:PD X e f)(hbase:dS (.Name x px) "extend" X.env (eval (.Name x px) X.env)=eval (.Name x px) X.env:=by rfl)
  (hfew:((dY cp (starEach [e] X.env)).all (fun x=>!x.1)&&(backToKw cp (keywordEach [] X.env)).all (fun x=>x.1.isSome)&&decide ([e].length+([]:List d3).length+(if([]:List d3).isEmpty then 0 else 1)<30))=true:=by rfl)
  (hline:(ap.endLine==cp.line)=true:=by rfl) (hs:starEach [e] X.env=(false,eval e X.env)::starEach [] X.env:=by rfl) (hsw:swapsWith (.Call (.Attribute (.Name x px) "extend" ap) [e] [] cp) none pos.line X.env=pure false:=by rfl):
  PS X (.Expr (.Call (.Attribute (.Name x px) "extend" ap) [e] [] cp) pos) (tS X.K H0 B0 fr RX (y4a i f)):=
 PS.imp (z2P (y3L PySem.F.plainAttrs_list PySem.F.slot_list_extend PySem.F.type_list_extend z7h hx (z1v he pa_nil hs) hbase hfew hline hs rfl) hsw) fun D σ H ⟨δ,R,o,rs,q,k⟩=>by
  unfold y4a at q
  cases e1:f (z0i δ)with
  |none=>rw[e1]at q;cases q
  |some d=>
  rw[e1,af]at q
  split at q
  case h_2=>cases q
  case h_1 es ds ei=>
  split at q
  case isFalse=>cases q
  case isTrue hl=>
  cases q
  obtain⟨a,xs,A,ev,ha,ts,eR,nd⟩:=rs.top ei
  refine⟨.ref a,ev,.inl ⟨rfl,xs,SqL.of ha⟩,noB,z0i δ,_,.no,rs.all,e1,fun y H2 s2 r2=>?_⟩
  unfold Rep at r2
  obtain⟨b,zs,rfl,_,hb,rz⟩:=r2
  refine⟨a,b,xs,zs,rfl,rfl,s2 _ _ ha,hb,by rw[←ts.length,←rz.length];exact hl.2,?_⟩
  have tz:=rz.immTree es hl.1
  have P:=rs.put0 s2 ei ev eR nd ((ts.mono s2).append tz) (by rw[aG];exact(am.mp nd).2) fun p hp=>.inl (by rw[aG]at hp;exact hp)
  exact k σ _ _ P.1 P.2
end
section
end
end L2

/-! ### E67: isinstance(e,(A,B)) of an exception -/
namespace L2
open PySem PySem.Spec PyProof.Rows
section
end
end L2

/-! ### E68: xs.count(x);xs[k]=a new thing -/
namespace L2
open PySem PySem.Spec PyProof.Rows
section
end
theorem Trees.setN{K:aa}{H:Hp}{d:D}{y:V}{C:List Addr}(ty:Tree K H d y C):∀{ds:List D} {xs:List V} {A:List Addr} (j:Nat),Trees K H ds xs A->∃A',Trees K H (ds.set j d) (xs.set j y) A'∧((A++C).Nodup->A'.Nodup)∧∀a∈A',a∈A∨a∈C
 |[],_,_,_,h=>by
  obtain⟨rfl,rfl⟩:=h
  exact⟨[],⟨rfl,rfl⟩,fun _=>aY,fun a z=>nomatch z⟩
 |e::ds,_,_,0,h=>by
  unfold Trees at h
  obtain⟨x,r,A1,A2,rfl,h1,h2,rfl⟩:=h
  refine⟨C++A2,?_,fun nd=>?_,fun a ha=>?_⟩
  ·rw[bA,bA]
   unfold Trees
   exact⟨y,r,C,A2,rfl,ty,h2,rfl⟩
  ·obtain⟨n1,n2,n3⟩:=ay.mp nd
   obtain⟨m1,m2,m3⟩:=ay.mp n1
   exact ay.mpr ⟨n2,m2,fun a ha b hb z=>n3 b (au _ hb) a ha z.symm⟩
  ·rcases aw.mp ha with z | z
   ·exact .inr z
   ·exact .inl (au _ z)
 |e::ds,_,_,k+1,h=>by
  unfold Trees at h
  obtain⟨x,r,A1,A2,rfl,h1,h2,rfl⟩:=h
  obtain⟨A',t,nd',sb⟩:=Trees.setN ty k h2
  refine⟨A1++A',?_,fun nd=>?_,fun a ha=>?_⟩
  ·rw[bB,bB]
   unfold Trees
   exact⟨x,_,A1,A',rfl,h1,t,rfl⟩
  ·rw[aQ]at nd
   obtain⟨n1,n2,n3⟩:=ay.mp nd
   refine ay.mpr ⟨n1,nd' n2,fun a ha b hb z=>?_⟩
   rcases sb b hb with w | w
   ·exact n3 a ha b (bg _ w) z
   ·exact n3 a ha b (au _ w) z
  ·rcases aw.mp ha with z | z
   ·exact .inl (bg _ z)
   ·rcases sb a z with w | w
    ·exact .inl (au _ w)
    ·exact .inr w
section
variable{X:Cx}{H0:Hp}{B0:Addr->Prop}{fr:Bool}{RX:XR}{e ke:Expr}{pos:Pos}{x:Str}{px p2:Pos}
def st0N(i:Nat)(fk fv:DE):SS->Option Out:=fun δ=>(fv (z0i δ)).bind fun d=>(fk (z0i δ)).bind fun dk=>(match dk,δ[i]? with
 |.int k,some (some (.ow (.lst ds)))=>(ixN ds.length k).map fun j=>.nx ((z0r i δ).set i (some (.ow (.lst (ds.set j d)))))
 |_,_=>none)
theorem s_st0N{i:Nat}{fk fv:DE}(hx:PE X (.Name x px) (z5m i))(hk:PD X ke fk)(hv:PN X e fv)
  (ha:∀v,d4 (.Subscript (.Name x px) ke p2) X.env v=(do
   let ov ←holding [v] (eval (.Name x px) X.env)
   let iv ←holding [v,ov] (eval ke X.env)
   standAt p2
   holding [v,ov,iv] (setItem ov iv v)
   release [v,ov,iv] []):=by intro _;rfl)
  (hs:swapsWithSole [.Subscript (.Name x px) ke p2] e pos.line X.env=pure false:=by rfl) (hw:swappedStores [.Subscript (.Name x px) ke p2] e X.env=pure none:=by rfl)
  (h1:(dW [.Subscript (.Name x px) ke p2] X.env).map (·.2)=[d4 (.Subscript (.Name x px) ke p2) X.env]:=by rfl):
  PS X (.Assign [.Subscript (.Name x px) ke p2] e pos) (tS X.K H0 B0 fr RX (st0N i fk fv)):=
 PS.imp (y3T hv (y0r hx hk z6n ha) hs hw h1) fun D σ H ⟨δ,R,o,rs,q,kk⟩=>by
  unfold st0N at q
  cases e1:fv (z0i δ)with
  |none=>rw[e1]at q;cases q
  |some d=>
  rw[e1,af]at q
  cases e2:fk (z0i δ)with
  |none=>rw[e2]at q;cases q
  |some dk=>
  rw[e2,af]at q
  split at q
  case h_2=>cases q
  case h_1=>
  rename_i k ds ei
  cases ej:ixN ds.length k with
  |none=>rw[ej]at q;cases q
  |some j=>
  rw[ej]at q
  cases q
  obtain⟨a,xs,A,ev,ha',ts,eR,nd⟩:=rs.top ei
  refine⟨z0i δ,d,rs.all,e1,fun v H1 C s1 t1 nC fC=>⟨.ref a,ev,noB,z0i δ,.int k,.no,rs.all.mono s1,e2,fun v2 H2 s2 r2=>?_⟩⟩
  cases (show v2=V.int k from r2)
  refine⟨a,xs,k,j,rfl,rfl,s2 _ _ (s1 _ _ ha'),by rw[←ts.length];exact ej,?_⟩
  obtain⟨A',t',nd',sb⟩:=Trees.setN (t1.mono s2) j (ts.mono (s1.trans s2))
  have hAC:(A++C).Nodup:=ay.mpr ⟨(am.mp nd).2,nC,fun p hp c hc z=>by
   subst z
   obtain⟨u,q,_⟩:=Trees.held ds ts p hp
   rw[fC p hc]at q;cases q⟩
  have P:=rs.put0 (s1.trans s2) ei ev eR nd t' (nd' hAC) fun b hb=>(sb b hb).imp id (fC b)
  exact kk σ _ _ P.1 P.2
end
end L2

/-! ### E69: loops that only look,over things that can change -/
namespace L2
open PySem PySem.Spec PyProof.Rows
theorem RepS.set{K:aa}{H:Hp}{B:Addr->Prop}{σ:St}{δ:DS}{i:Nat}{d:D}{v:V}(h:RepS K H B (σ.set i (some v)) δ)(r:Rep K H B d v)(hi:i<σ.length):RepS K H B (σ.set i (some v)) (δ.set i (some d)):=by
 refine⟨by rw[bF];exact h.len,fun j d' q=>?_⟩
 by_cases hij:i=j
 ·subst hij
  rw[bR]at q
  simp only[if_true]at q
  split at q
  ·cases q
   exact⟨v,by rw[bi hi],r⟩
  ·cases q
 ·rw[aE hij]at q
  exact h.get j d' q
section
end
end L2

/-! ### E70: x=f(..,y): an owned list y of ints is lent frozen,so that the list of ints that comes back is new -/
namespace L2
open PySem PySem.Spec PyProof.Rows
def hdI:List D->Bool
 |.int _::_=>true
 |_=>false
mutual
def noI:D->Bool
 |.lst ds=>!hdI ds&&noIs ds
 |.tup ds=>noIs ds
 |.dct _ _=>false
 |.exc _=>false
 |.obj _ _ _ _=>false
 |.cel _ _=>false
 |.non=>true
 |.bl _=>true
 |.int _=>true
 |.str _=>true
 |.scr _=>true
def noIs:List D->Bool
 |[]=>true
 |d::ds=>noI d&&noIs ds
end
def iB(H:Hp):Addr->Prop:=fun a=>∃i xs,H a=some (.lst (.int i::xs))
section
variable{K:aa}{H:Hp}{B:Addr->Prop}{m:Addr}{xs:List V}{o:Obj}
theorem rep_int{i:Int}{d:D}(h:Rep K H B d (.int i)):d = .int i:=by
 cases d <;> unfold Rep at h
 case int j=>cases h;rfl
 case non=>cases h
 case bl=>cases h
 case str=>cases h
 case scr=>obtain⟨_,z,_⟩:=h;cases z
 case obj=>obtain⟨_,_,_,_,_,⟨z,_⟩,_⟩:=h;cases z
 case cel=>obtain⟨_,_,_,z,_⟩:=h;cases z
 all_goals (obtain⟨_,_,z,_⟩:=h;cases z)
theorem rd_fz{a:Addr}{u:HO}(hm:H m=some (.lst xs))(hu:∀z,u≠.lst z)(h:Rd H a u):Rd (upd H m (.frz o (.lst xs))) a u:=by
 rcases h with z | ⟨o',z⟩
 ·exact .inl (by rw[z0n (fun w=>hu xs (by rw[w,hm]at z;exact(Option.some.inj z).symm))];exact z)
 ·exact .inr ⟨o',by rw[z0n (fun w=>by rw[w,hm]at z;cases z)];exact z⟩
mutual
theorem Rep.fz(hm:H m=some (.lst xs))(hB:B m):∀(d:D) {v:V},noI d=true->Rep K H B d v->Rep K (upd H m (.frz o (.lst xs))) (iB (upd H m (.frz o (.lst xs)))) d v
 |.non,_,_,h=>h
 |.bl _,_,_,h=>h
 |.int _,_,_,h=>h
 |.str _,_,_,h=>h
 |.scr ns,_,_,h=>by
  unfold Rep at h ⊢
  obtain⟨a,e,z⟩:=h
  refine⟨a,e,?_⟩
  rcases z with⟨o',z⟩ | z
  ·exact .inl ⟨o',by rw[z0n (fun w=>by rw[w,hm]at z;cases z)];exact z⟩
  ·exact .inr z
 |.dct _ _,_,n,_=>by unfold noI at n;cases n
 |.exc _,_,n,_=>by unfold noI at n;cases n
 |.obj _ _ _ _,_,n,_=>by unfold noI at n;cases n
 |.cel _ _,_,n,_=>by unfold noI at n;cases n
 |.tup ds,_,n,h=>by
  unfold noI at n
  unfold Rep at h ⊢
  obtain⟨a,ys,e,z,r⟩:=h
  exact⟨a,ys,e,z.elim (fun z=>.inl (rd_fz hm (by intro _ z;cases z) z)) .inr,Reps.fz hm hB ds n r⟩
 |.lst ds,_,n,h=>by
  unfold noI at n
  unfold Rep at h ⊢
  obtain⟨a,ys,e,nb,ha,r⟩:=h
  have ne:a≠m:=fun w=>nb (w ▸ hB)
  obtain⟨n1,n2⟩:=aA.mp n
  refine⟨a,ys,e,fun⟨i,zs,z⟩=>?_,by rw[z0n ne];exact ha,Reps.fz hm hB ds n2 r⟩
  rw[z0n ne,ha]at z
  cases z
  cases ds with
  |nil=>unfold Reps at r;cases r
  |cons d ds=>
   unfold Reps at r
   obtain⟨x,r',e',rd,_⟩:=r
   cases e'
   rw[rep_int rd]at n1
   cases n1
theorem Reps.fz(hm:H m=some (.lst xs))(hB:B m):∀(ds:List D) {vs:List V},noIs ds=true->Reps K H B ds vs->Reps K (upd H m (.frz o (.lst xs))) (iB (upd H m (.frz o (.lst xs)))) ds vs
 |[],_,_,h=>h
 |d::ds,_,n,h=>by
  unfold noIs at n
  unfold Reps at h ⊢
  obtain⟨x,r,e,rd,rs⟩:=h
  obtain⟨n1,n2⟩:=aA.mp n
  exact⟨x,r,e,Rep.fz hm hB d n1 rd,Reps.fz hm hB ds n2 rs⟩
end
end
section
end
end L2

/-! ### E71: x[0].append(n),x.append([]) of a shared list of lists of ints,at the end of the law: what may be of it is forgotten -/
namespace L2
open PySem PySem.Spec PyProof.Rows
mutual
def noJ:D->Bool
 |.lst ds=>!hdI ds&&noJs ds
 |.non=>true
 |.bl _=>true
 |.int _=>true
 |.str _=>true
 |.tup _=>false
 |.scr _=>false
 |.dct _ _=>false
 |.exc _=>false
 |.obj _ _ _ _=>false
 |.cel _ _=>false
def noJs:List D->Bool
 |[]=>true
 |d::ds=>noJ d&&noJs ds
end
section
variable{K:aa}{H:Hp}{B:Addr->Prop}{m:Addr}{xs:List V}
mutual
theorem Rep.off(hm:H m=some (.lst xs))(hx:∀ds,hdI ds=false->noJs ds=true->Reps K H B ds xs->False):∀(d:D) {v:V},noJ d=true->Rep K H B d v->Rep K H (fun a=>B a∨a=m) d v
 |.non,_,_,h=>h
 |.bl _,_,_,h=>h
 |.int _,_,_,h=>h
 |.str _,_,_,h=>h
 |.tup _,_,n,_=>by unfold noJ at n;cases n
 |.scr _,_,n,_=>by unfold noJ at n;cases n
 |.dct _ _,_,n,_=>by unfold noJ at n;cases n
 |.exc _,_,n,_=>by unfold noJ at n;cases n
 |.obj _ _ _ _,_,n,_=>by unfold noJ at n;cases n
 |.cel _ _,_,n,_=>by unfold noJ at n;cases n
 |.lst ds,_,n,h=>by
  unfold noJ at n
  unfold Rep at h ⊢
  obtain⟨a,ys,e,nb,ha,r⟩:=h
  obtain⟨n1,n2⟩:=aA.mp n
  refine⟨a,ys,e,fun z=>?_,ha,Reps.off hm hx ds n2 r⟩
  rcases z with z | z
  ·exact nb z
  ·rw[z,hm]at ha
   cases ha
   exact hx ds (by simpa using n1) n2 r
theorem Reps.off(hm:H m=some (.lst xs))(hx:∀ds,hdI ds=false->noJs ds=true->Reps K H B ds xs->False):∀(ds:List D) {vs:List V},noJs ds=true->Reps K H B ds vs->Reps K H (fun a=>B a∨a=m) ds vs
 |[],_,_,h=>h
 |d::ds,_,n,h=>by
  unfold noJs at n
  unfold Reps at h ⊢
  obtain⟨x,r,e,rd,rs⟩:=h
  obtain⟨n1,n2⟩:=aA.mp n
  exact⟨x,r,e,Rep.off hm hx d n1 rd,Reps.off hm hx ds n2 rs⟩
end
end
def y3Z:Option SD->Option SD
 |some (.sh d)=>if noJ d=true then some (.sh d)else none
 |some (.ow d)=>some (.ow d)
 |_=>none
theorem y4V{o:Option SD}{d:D}(h:y3Z o=some (.sh d)):o=some (.sh d)∧noJ d=true:=by
 unfold y3Z at h
 split at h
 ·split at h
  ·rename_i z;cases h;exact⟨rfl,z⟩
  ·cases h
 ·cases h
 ·cases h
theorem y4O{o:Option SD}{r:Nat}{d:D}(h:y3Z o=some (.bo r d)):False:=by
 unfold y3Z at h
 split at h
 ·split at h <;> cases h
 ·cases h
 ·cases h
section
variable{K:aa}{H0 H:Hp}{B0:Addr->Prop}{σ:St}{δ:SS}{R:Nat->List Addr}
/-- a cell that is nobody's own is written -/
theorem RS.wr{m:Addr}{xs ys:List V}(h:RS K H0 B0 H σ δ R)(hO:∀a xs,H0 a≠some (.lst xs))(hk:∀x∈δ,y3Z x=x)(hm:H m=some (.lst xs))(nR:∀r,m∉R r)
  (hx:∀B ds,hdI ds=false->noJs ds=true->Reps K H B ds xs->False):RS K H0 B0 (upd H m (.lst ys)) σ δ R:=by
 have mu:Mut (H m):=by rw[hm];exact trivial
 have nm:∀r a,a∈R r->a≠m:=fun r a z w=>nR r (w ▸ z)
 refine⟨fun a u q=>?_,h.inB,h.len,h.new,fun r a z=>?_,h.disj,fun i d q=>?_,fun i r d q=>?_,fun i d q=>?_⟩
 ·have ne:a≠m:=fun w=>by
   have:=h.keep a u q
   rw[w,hm]at this
   cases this
   exact hO a xs q
  rw[z0n ne]
  exact h.keep a u q
 ·rw[z0n (nm r a z)]
  exact h.held r a z
 ·obtain⟨v,e,r⟩:=h.sh i d q
  have n:=(y4V (hk _ (cF q))).2
  exact⟨v,e,(Rep.keep (Keep.upd (.inr rfl) mu) d (Rep.off hm (hx _) d n r)).anti fun a z=>.inl z⟩
 ·exact(y4O (hk _ (cF q))).elim
 ·obtain⟨v,e,t,nd⟩:=h.ow i d q
  refine⟨v,e,Tree.keep (Keep.upd (K:=K) (B:=fun x=>x=m) rfl mu).i d t fun a ha o z=>?_,nd⟩
  rw[z0n (nm i a ha)]
  exact z
end
section
end
end L2

/-! ### E72: the law's def where nothing but the script is there at the z4b -/
namespace L2
open PySem PySem.Spec PyProof.Rows
section
end
section
end
end L2

/-! ### E73: min of a list of ints,frozen or not -/
namespace L2
open PySem PySem.Spec PyProof.Rows
section
end
end L2

/-! ### E74: xs.append(ys.pop(0)) of two owned lists of ints -/
namespace L2
open PySem PySem.Spec PyProof.Rows
section
end
end L2

/-! ### E75: zip of two sequences,its pairs taken apart at once -/
namespace L2
open PySem PySem.Spec PyProof.Rows
section
end
section
variable{z:Addr}{b:Value}
/-- what is not one of these stays -/
def Stay(xs:List Addr)(h h':Heap):Prop:=∀c o,c∉xs->h.get? c=some o->h'.get? c=some o
theorem Stay.but{c:Addr}{xs:List Addr}{h h1 h2:Heap}(k:Stay xs h h1)(e:Heap.ExtBut c h1 h2)(hc:c∈xs):Stay xs h h2:=fun b o hb q=>e b o (fun z=>hb (z ▸ hc)) (k b o hb q)
theorem Stay.one{c:Addr}{xs:List Addr}{h h1:Heap}(e:Heap.ExtBut c h h1)(hc:c∈xs):Stay xs h h1:=fun b o hb q=>e b o (fun z=>hb (z ▸ hc)) q
theorem Stay.wide{xs ys:List Addr}{h h1:Heap}(k:Stay xs h h1)(e:∀c∈xs,c∈ys):Stay ys h h1:=fun b o hb q=>k b o (fun z=>hb (e b z)) q

end
section
/-! zip(tuple,list) -/
end
end L2

/-! ### E76: zip as what is gone through -/
namespace L2
open PySem PySem.Spec PyProof.Rows
/-! a tuple (true) or a list (false) -/
def SIt(h:Heap)(tp:Bool)(it a:Addr)(i:Nat):Prop:=if tp=true then h.IsTupleIter it a i else h.IsListIter it a i
def SSq(h:Heap)(tp:Bool)(a:Addr)(its:Array Value):Prop:=if tp=true then h.IsTuple a its else h.IsList a its
theorem SIt.obj{h:Heap}{tp:Bool}{it a:Addr}{i:Nat}(x:SIt h tp it a i):∃o,h.get? it=some o∧(o.cls = .type "tuple_iterator" ∨ o.cls = .type "list_iterator")∧∃vs,o.data = .fields vs:=by
 cases tp with
 |true=>obtain⟨o,e,c,d⟩:=(show h.IsTupleIter it a i from x);exact⟨o,e,.inl c,_,d⟩
 |false=>obtain⟨o,e,c,d⟩:=(show h.IsListIter it a i from x);exact⟨o,e,.inr c,_,d⟩
theorem SSq.obj{h:Heap}{tp:Bool}{a:Addr}{its:Array Value}(x:SSq h tp a its):∃o,h.get? a=some o∧(o.cls = .type "tuple" ∨ o.cls = .type "list"):=by
 cases tp with
 |true=>obtain⟨o,e,c,_⟩:=(show h.IsTuple a its from x);exact⟨o,e,.inl c⟩
 |false=>obtain⟨o,e,c,_⟩:=(show h.IsList a its from x);exact⟨o,e,.inr c⟩
theorem SIt.at{h h':Heap}{tp:Bool}{it a:Addr}{i:Nat}(x:SIt h tp it a i)(k:∀o,h.get? it=some o->h'.get? it=some o):SIt h' tp it a i:=by
 cases tp with
 |true=>obtain⟨o,e,r⟩:=(show h.IsTupleIter it a i from x);exact⟨o,k o e,r⟩
 |false=>obtain⟨o,e,r⟩:=(show h.IsListIter it a i from x);exact⟨o,k o e,r⟩
theorem SSq.at{h h':Heap}{tp:Bool}{a:Addr}{its:Array Value}(x:SSq h tp a its)(k:∀o,h.get? a=some o->h'.get? a=some o):SSq h' tp a its:=by
 cases tp with
 |true=>obtain⟨o,e,r⟩:=(show h.IsTuple a its from x);exact⟨o,k o e,r⟩
 |false=>obtain⟨o,e,r⟩:=(show h.IsList a its from x);exact⟨o,k o e,r⟩
section
end
/-- where the two of them and the zip's own things stand -/
structure ZipAt(h:Heap)(tp:Bool)(a b z TI TO i1 i2:Addr)(i:Nat):Prop where
 zip:IsZip h z TI TO .none
 its:IsPair h TI (.ref i1) (.ref i2)
 out:∃u v,IsPair h TO u v
 one:SIt h tp i1 a i
 two:SIt h false i2 b i
end L2

/-! ### E77: lists of ints that are changed no more are frozen: they are then as the script is,things that cannot change -/
namespace L2
open PySem PySem.Spec PyProof.Rows
def fzH(ob:Addr->Obj)(L:Addr->Bool)(H:Hp):Hp:=fun a=>match H a with
 |some (.lst xs)=>if L a=true then some (.frz (ob a) (.lst xs))else some (.lst xs)
 |z=>z
section
variable{ob:Addr->Obj}{L:Addr->Bool}{H:Hp}{a:Addr}
theorem y6D{xs:List V}(h:H a=some (.lst xs))(hl:L a=true):fzH ob L H a=some (.frz (ob a) (.lst xs)):=by
 unfold fzH
 rw[h]
 exact if_pos hl
theorem z3i(hl:L a=false):fzH ob L H a=H a:=by
 unfold fzH
 cases h:H a with
 |none=>rfl
 |some u=>
  cases u with
  |lst xs=>exact if_neg (by rw[hl];exact aj)
  |_=>rfl
theorem z6t(h:∀xs,H a≠some (.lst xs)):fzH ob L H a=H a:=by
 unfold fzH
 cases e:H a with
 |none=>rfl
 |some u=>
  cases u with
  |lst xs=>exact(h xs e).elim
  |_=>rfl
theorem fzH_no(h:fzH ob L H a=none):H a=none:=by
 cases e:H a with
 |none=>rfl
 |some u=>
  cases u with
  |lst xs=>
   cases hl:L a with
   |true=>rw[y6D e hl]at h;cases h
   |false=>rw[z3i hl,e]at h;cases h
  |_=>rw[z6t (fun xs z=>by rw[e]at z;cases z),e]at h;cases h
end
theorem Inv.fz{X:Cx}{pins:List (Addr×Obj)}{σ:List (Option V)}{H:Hp}{s:dw}(I:Inv X pins σ H s)(L:Addr->Bool):∃ob,Inv X pins σ (fzH ob L H) s:=by
 refine⟨fun a=>(s.heap.get? a).getD ⟨.none,none,.fields #[],#[]⟩,?_⟩
 have no:∀{b:Addr},H b=none->fzH (fun a=>(s.heap.get? a).getD ⟨.none,none,.fields #[],#[]⟩) L H b=none:=fun z=>by rw[z6t (fun xs w=>by rw[z]at w;cases w)];exact z
 have ot:∀{b:Addr} {u:HO},H b=some u->(∀xs,u≠.lst xs)->fzH (fun a=>(s.heap.get? a).getD ⟨.none,none,.fields #[],#[]⟩) L H b=some u:=fun z hu=>by rw[z6t (fun xs w=>by rw[z]at w;exact hu xs (Option.some.inj w))];exact z
 have st:∀{b:Addr} {u:HO},ObjOk X.prog X.w H s.heap b u->ObjOk X.prog X.w (fzH (fun a=>(s.heap.get? a).getD ⟨.none,none,.fields #[],#[]⟩) L H) s.heap b u:=fun x=>x.stay (fun _ _ _ q=>q) (fun d z=>ot z fun _ w=>by cases w) fun d xs z=>ot z fun _ w=>by cases w
 refine⟨I.ok,I.os,I.bare,⟨I.base.keep,I.base.slot,fun b o q n hx=>no (I.base.free b o q n hx),I.base.there,fun b xs q=>ot (I.base.tups b xs q) fun _ w=>(by cases w),fun b o u q=>ot (I.base.frzs b o u q) fun _ w=>(by cases w),fun b ps q=>?_⟩,
  I.loc,I.cell,no I.free,fun x c h=>no (I.freeC x c h),fun p hp=>?_,fun b u q=>?_,I.len⟩
 ·obtain⟨more,z⟩:=I.base.tbls b ps q
  exact⟨more,ot z fun _ w=>by cases w⟩
 ·obtain⟨p1,p2,p3⟩:=I.pin p hp
  exact⟨p1,no p2,p3⟩
 ·cases e:H b with
  |none=>rw[no e]at q;cases q
  |some u0=>
   by_cases hu:∃xs,u0 = .lst xs
   ·obtain⟨xs,rfl⟩:=hu
    have ok:=I.hok b _ e
    cases hl:L b with
    |false=>
     rw[z3i hl,e]at q
     cases q
     exact st ok
    |true=>
     rw[y6D e hl]at q
     cases q
     obtain⟨z,its,n,r,eg⟩:=(show ObjOk X.prog X.w H s.heap b (.lst xs) from ok)
     refine⟨?_,st ok⟩
     rw[eg]
     rfl
   ·rw[ot e fun xs w=>hu ⟨xs,w⟩]at q
    cases q
    exact st (I.hok b _ e)
section
variable{K:aa}{ob:Addr->Obj}{L:Addr->Bool}{H0 H:Hp}{B B0:Addr->Prop}{σ:St}{δ:SS}{R:Nat->List Addr}
theorem Keep.fz(hb:∀a,L a=true->B a):Keep K B H (fzH ob L H):=by
 have off:∀{a:Addr},¬ B a->L a=false:=fun {a} n=>by
  cases h:L a with
  |false=>rfl
  |true=>exact(n (hb a h)).elim
 have ot:∀{b:Addr} {u:HO},H b=some u->(∀xs,u≠.lst xs)->fzH ob L H b=some u:=fun z hu=>by rw[z6t (fun xs w=>by rw[z]at w;exact hu xs (Option.some.inj w))];exact z
 refine⟨fun b xs n h=>by rw[z3i (off n)];exact h,fun b xs h=>?_,fun b xs h=>?_,fun b kvs n h=>ot h fun _ w=>(by cases w),fun b φ n h=>ot h fun _ w=>(by cases w),fun b _ _ _ n h=>ot h fun _ w=>by cases w⟩
 ·rcases h with (h | ⟨u,h⟩) | h
  ·exact .inl (.inl (ot h fun _ w=>by cases w))
  ·exact .inl (.inr ⟨u,ot h fun _ w=>by cases w⟩)
  ·exact .inr h
 ·rcases h with⟨u,h⟩ | h
  ·exact .inl ⟨u,ot h fun _ w=>by cases w⟩
  ·exact .inr h
theorem z7E{i:Nat}{δ:SS}:(z0r i δ).length=δ.length:=by unfold z0r;rw[ah]
/-- what is frozen is of slot i's own -/
theorem RS.fz{i:Nat}{x:SD}{A':List Addr}(rs:RS K H0 B0 H σ δ R)(hL:∀a,L a=true->a∈R i)(hA:∀a∈A',a∈R i∧L a=false)(nd:A'.Nodup)
  (hs:∀d,x = .sh d->∃v,σ[i]? = some (some v)∧Rep K (fzH ob L H) (fun a=>B0 a∨∃r,a∈z5G R i A' r) d v) (hb:∀r d,x≠.bo r d) (ho:∀d,x = .ow d->∃v,σ[i]? = some (some v)∧Tree K (fzH ob L H) d v A'):
  RS K H0 B0 (fzH ob L H) σ ((z0r i δ).set i (some x)) (z5G R i A')∧Stp R H (z5G R i A') (fzH ob L H):=by
 have sub:∀r a,a∈z5G R i A' r->a∈R r∧L a=false:=fun r a z=>by
  by_cases hr:r=i
  ·subst hr
   rw[z0N]at z
   exact hA a z
  ·rw[z1A hr]at z
   refine⟨z,?_⟩
   cases h:L a with
   |false=>rfl
   |true=>exact(hr (rs.disj r i a z (hL a h))).elim
 have off:∀{a:Addr},a∉R i->L a=false:=fun {a} n=>by
  cases h:L a with
  |false=>rfl
  |true=>exact(n (hL a h)).elim
 refine⟨⟨fun a o h=>?_,rs.inB,by rw[bF,z7E];exact rs.len,fun r a z=>rs.new r a (sub r a z).1,fun r a z=>?_,fun r s a h h'=>rs.disj r s a (sub r a h).1 (sub s a h').1,fun j d z=>?_,fun j r d z=>?_,fun j d z=>?_⟩,⟨fun a o h n=>?_,fun r a z=>.inl ⟨r,(sub r a z).1⟩,fun a z=>fzH_no z⟩⟩
 ·have n:a∉R i:=fun z=>by rw[rs.new i a z]at h;cases h
  rw[z3i (off n)]
  exact rs.keep a o h
 ·obtain⟨o,e,m⟩:=rs.held r a (sub r a z).1
  exact⟨o,by rw[z3i (sub r a z).2];exact e,m⟩
 ·rcases z1r z with⟨rfl,e,_⟩ | ⟨hj,e⟩
  ·exact hs d (Option.some.inj e)
  ·obtain⟨v,ev,r⟩:=rs.sh j d (z1q e).1
   exact⟨v,ev,Rep.anti (fun a h=>h.elim .inl fun⟨r,h⟩=>.inr ⟨r,(sub r a h).1⟩) d (Rep.keep (.fz fun a h=>.inr ⟨i,hL a h⟩) d r)⟩
 ·rcases z1r z with⟨rfl,e,_⟩ | ⟨hj,e⟩
  ·exact(hb r d (Option.some.inj e)).elim
  ·obtain⟨e1,e2⟩:=z1q e
   have hri:i≠r:=fun w=>e2 d (by rw[w])
   obtain⟨v,ev,q⟩:=rs.bo j r d e1
   exact⟨v,ev,Rep.anti (fun a h=>h.elim .inl fun⟨s,hs,h⟩=>.inr ⟨s,hs,(sub s a h).1⟩) d (Rep.keep (.fz fun a h=>.inr ⟨i,hri,hL a h⟩) d q)⟩
 ·rcases z1r z with⟨rfl,e,_⟩ | ⟨hj,e⟩
  ·obtain⟨v,ev,t⟩:=ho d (Option.some.inj e)
   rw[z0N]
   exact⟨v,ev,t,nd⟩
  ·obtain⟨v,ev,t,n⟩:=rs.ow j d (z1q e).1
   rw[z1A hj]
   refine⟨v,ev,Tree.keep (Keep.fz (B:=fun a=>a∈R i) hL).i d t fun a ha o q=>?_,n⟩
   rw[z3i (off fun w=>hj (rs.disj j i a ha w))]
   exact q
 ·rw[z3i (off (n i))]
  exact h
end
/-! [[1,2],[3]]: the inner ones -/
section
end
/-! ahead of a statement: an owned list of ints;the inner lists of an owned list -/
section
end
end L2

/-! ### E78: x in xs,where xs may be frozen;tuple(xs) of such a one -/
namespace L2
open PySem PySem.Spec PyProof.Rows
section
/-! tuple(xs) -/
end
end L2

/-! ### E79: max(xs) and len(set(xs)) of a tuple of ints;{"a": x, "b": y} -/
namespace PySem
section
set_option maxHeartbeats 3200000 in
open PyProof.Rows in
end
end PySem
namespace L2
open PySem PySem.Spec PyProof.Rows
section
/-! max of a tuple -/
/-! {"a": x, "b": y},x and y things that cannot change -/
end
end L2

/-! ### E80: a dict of two words -/
namespace L2
open PySem PySem.Spec PyProof.Rows
section
end
end L2

/-! ### E81: name=[elt for a,b in iter if c] -/
namespace L2
open PySem PySem.Spec PyProof.Rows
section
end
end L2

/-! ### E82: defs that may raise and hand back what is shared -/
namespace L2
open PySem PySem.Spec PyProof.Rows
section
end
section
end
end L2

/-! ### E83: x[1].append(n) of a shared tuple (word,list of ints),at the end of the law: what may be of it is forgotten -/
namespace L2
open PySem PySem.Spec PyProof.Rows
section
end
section
end
section
end
end L2

/-! ### E84: texts: +,<=,in,not in,t[k],t[a:b],len,str(n),int(t),find;for sign in t -/
namespace L2
open PySem PySem.Spec PyProof.Rows
section
/-! for sign in text -/
end
end L2

/-! ### E85: abs(n);// by a divisor of any sign -/
namespace L2
open PySem PySem.Spec PyProof.Rows
instance{i j:Int}:Decidable (CDivN i j):=by unfold CDivN;infer_instance
section
end
end L2

/-! ### E86: instances of the program's own classes: attributes,methods that look,methods and defs that change the instance handed in first -/
namespace L2
open PySem PySem.Spec PyProof.Rows
/-- a method of the class of that name -/
structure MethOk(P:dN)(w:dO)(K:aa)(mg:Str->Option Value)(base:Heap)(k:Nat)(cn m:Str)(sp:Sp):Prop where
 ok:∃(C f:Addr) (fd:dP) (ps:List Str),aB K mainGlobals cn=some (some (.ref C))∧L2.Cls K C∧Meth K C m f∧Binds K fd ps []∧FnOk P w K mg base CX0 k f fd ps sp
/-! o.f -/
section
variable{o:Expr}{m:Str}
/-! o.m(..) -/
end
/-! ### a def or method that changes the instance handed in first -/
section
end
/-! calls of such -/
section
variable{i:Nat}
variable{H0:Hp}{B0:Addr->Prop}
theorem RS.apart{K:aa}{σ:St}{H H1:Hp}{δ:SS}{R:Nat->List Addr}{A':List Addr}(rs:RS K H0 B0 H σ δ R)(s1:Same H H1)(a:Addr)(h:a∈R i∨H1 a=none)(n:a∉A'):H0 a=none∧∀r,a∉z5G R i A' r:=by
 refine⟨h.elim (fun z=>rs.new i a z) fun z=>rs.keep.free (s1.free z),fun r z=>?_⟩
 by_cases hr:r=i
 ·subst hr;rw[z0N]at z;exact n z
 ·rw[z1A hr]at z
  rcases h with w | w
  ·exact hr (rs.disj r i a z w)
  ·obtain⟨o,q,_⟩:=rs.held r a z
   rw[s1.free w]at q;cases q
end
end L2

/-! ### E87: o.f=e;the book's change_to,a new book;append to what is thrown away -/
namespace L2
open PySem PySem.Spec PyProof.Rows
section
/-! ### the book -/
def bkKs:List Str:=["thing_count", "entries", "earlier", "next_number"]
def bk4{α:Type}(a b c d:α):List (Str×α):=[("thing_count",a),("entries",b),("earlier",c),("next_number",d)]
end
section
variable{K:aa}
/-- Book(many) -/
def spI(K:aa):Sp:=fun vs H Q _=>∃(a C dx:Addr) (m:Int),vs=[.ref a,.int m]∧H a=some (.ins C dx [])∧y0d K C bkKs=true ∧
 ∀l1 l2 H',H l1=none->H l2=none->l1≠l2->H' a=some (.ins C dx (bk4 (.int m) (.ref l1) (.ref l2) (.int 0)))->H' l1=some (.lst [])->H' l2=some (.lst [])->(∀b o,b≠a->H b=some o->H' b=some o)->(∀b,H' b=none->H b=none)->Q .non H'
end
structure NewOk(P:dN)(w:dO)(K:aa)(mg:Str->Option Value)(base:Heap)(k:Nat)(cn:Str):Prop where
 ok:∃(C fi:Addr) (fd:dP) (ps:List Str),Mk K C fi∧mg cn=some (.ref C)∧aB K mainGlobals cn=some (some (.ref C))∧y0d K C bkKs=true∧Binds K fd ps []∧FnOk P w K mg base CX0 k fi fd ps (spI K)
/-! the calls -/
section
end
/-! xs.append(e) of a new list that nobody holds -/
section
end
end L2

/-! ### E88: xs.append(ys.pop(k)) of two owned lists of ints -/
namespace L2
open PySem PySem.Spec PyProof.Rows
section
end
end L2

/-! ### E89: methods that may raise;the book's taking back -/
namespace L2
open PySem PySem.Spec PyProof.Rows
structure MethX(P:dN)(w:dO)(K:aa)(mg:Str->Option Value)(base:Heap)(k:Nat)(cn m:Str)(sp:Sp):Prop where
 ok:∃(C f:Addr) (fd:dP) (ps:List Str),aB K mainGlobals cn=some (some (.ref C))∧L2.Cls K C∧Meth K C m f∧Binds K fd ps []∧FnOk P w K mg base (CXE P w) k f fd ps sp
section
end
/-! ### self.entries=self.earlier.pop() -/
section
end
end L2

/-! ### E90: a def or method that changes the instance handed in first,and may raise;such calls in `if not ..:` -/
namespace L2
open PySem PySem.Spec PyProof.Rows
inductive BO where
 |val (o d:D) | exc (c:Nat) (o:D)
section
end
/-! calls of such -/
section
end
inductive BR where
 |val (d:D) (δ:SS) | exc (c:Nat) (δ:SS)
/-- what a look sees besides the slot i -/
def offV(i:Nat)(δ:SS):DS:=z0i ((z0r i δ).set i none)
theorem RS.off{K:aa}{H0 H:Hp}{B0:Addr->Prop}{σ:St}{δ:SS}{R:Nat->List Addr}{i:Nat}(h:RS K H0 B0 H σ δ R):RepS K H (fun a=>a∈R i) σ (offV i δ):=by
 refine⟨by unfold offV z0i;rw[ah,bF];simp[z0r,h.len],fun j d e=>?_⟩
 obtain⟨x,e',rfl⟩:=z9H e
 rcases z1r e' with⟨_,q,_⟩ | ⟨hj,q⟩
 ·cases q
 ·obtain⟨q1,q2⟩:=z1q q
  cases x with
  |sh d=>
   obtain⟨v,e1,r⟩:=h.sh j d q1
   exact⟨v,e1,r.anti fun a z=>.inr ⟨i,z⟩⟩
  |bo r d=>
   have hr:i≠r:=fun e=>q2 d (by rw[e])
   obtain⟨v,e1,r⟩:=h.bo j r d q1
   exact⟨v,e1,r.anti fun a z=>.inr ⟨i,hr,z⟩⟩
  |ow d=>
   obtain⟨v,e1,t,_⟩:=h.ow j d q1
   exact⟨v,e1,t.rep d fun a ha z=>hj (h.disj j i a ha z)⟩
section
end
end L2

/-! ### E91: (a,b,f(..)) of kind X;calls of kind BX in tests and returns -/
namespace L2
open PySem PySem.Spec PyProof.Rows
section
end
section
end
end L2

/-! ### E92: defs that are called within an except suite -/
namespace L2
open PySem PySem.Spec PyProof.Rows
structure RoomH(k:Nat)(A:Around):Prop where
 dp:A.depth+3*k+5<recursionLimit
 un:A.units+16*k+200<cLine
abbrev hush(A:Around):Around:={ A with handled:=none }
theorem RoomH.room{k:Nat}{A:Around}(r:RoomH k A):Room k (hush A):=⟨rfl,r.dp,r.un⟩
theorem RoomH.mono{j k:Nat}{A:Around}(r:RoomH k A)(h:j≤k):RoomH j A:=⟨by have:=r.dp;omega,by have:=r.un;omega⟩
structure FnOkH(P:dN)(w:dO)(K:aa)(mg:Str->Option Value)(base:Heap)(k:Nat)(f:Addr)(fd:dP)(ps:List Str)(sp:Sp):Prop where
 len:∀vs H Q E,sp vs H Q E->vs.length=ps.length
 run:∀(A:Around) (outer:List Env) (s:dw) (H:Hp) (args:Args) (us:List Value) (vs:List V) (Q:VK) (E:XK),RoomH k A->Env0 P w K mg base A outer s H->BindsTo s fd args (ps.zip us)->Vals vs us->sp vs H Q E →
  codeAny (model P w) A (.call (.ref f) args) (CR CX0 outer P w H s Q E) s
structure DefH(P:dN)(w:dO)(K:aa)(mg:Str->Option Value)(base:Heap)(k:Nat)(x:Str)(sp:Sp):Prop where
 ok:∃(f:Addr) (fd:dP) (ps:List Str),mg x=some (.ref f)∧bj K (.ref f)=true∧Binds K fd ps []∧FnOkH P w K mg base k f fd ps sp
section
end
section
end
end L2

/-! ### E93: tests that change the state;defs that change an instance and a list -/
namespace L2
open PySem PySem.Spec PyProof.Rows
/-! a list whose address is known,read as a list -/
section
/-! tests that change the state -/
end
end L2

/-! ### E94: lists whose address is known: append,pop;defs that change an instance and a list -/
namespace L2
open PySem PySem.Spec PyProof.Rows
section
end
/-! ### a def of three parameters that changes the instance handed in first and a list -/
abbrev F3:=D->List D->D->Option (D×List D×D)
section
end
section
end
end L2

/-! ### E95: an exception leaves a comprehension -/
namespace L2
open PySem PySem.Spec PyProof.Rows
/-- the exception at e,its newest traceback entry at T,whose mark is w -/
def ThrW(h:Heap)(e T:Addr)(cls w:Value):Prop:=∃oe vs oT ts,h.get? e=some oe∧oe.cls=cls∧oe.data = .fields vs∧vs[1]? = some (.ref T)∧T≠e∧h.get? T=some oT∧oT.data = .fields ts∧ts[3]? = some w∧oe.dict=none
structure GoneW(S ch:List Addr)(e:Addr)(cls w:Value)(h h':Heap):Prop where
 keep:∀b o,b∉S->b∉ch->h.get? b=some o->h'.get? b=some o
 slot:∀b o,b∈S->b∉ch->h.get? b=some o->∃sl,h'.get? b=some { o with slots:=sl }
 there:∀b o,h.get? b=some o->∃o',h'.get? b=some o'
 thr:∃T,h.objs.size≤T∧ThrW h' e T cls w
section
end
section
end
section
end
end L2

/-! ### E96: calls that may raise within a comprehension -/
namespace L2
open PySem PySem.Spec PyProof.Rows
section
end
section
end
end L2

/-! ### E97: texts: t*n,t.split(u),t.join(ts) -/
namespace L2
open PySem PySem.Spec PyProof.Rows
section
end
end L2

/-! ### E98: a module's dict of texts to tuples of texts -/
namespace L2
open PySem PySem.Spec PyProof.Rows
section
end
end L2

/-! ### E99: a dict display of words -/
namespace L2
open PySem PySem.Spec PyProof.Rows
section
end
end L2

/-! ### E100: an exception from any thing of a comprehension;x.append(e) where e raises -/
namespace L2
open PySem PySem.Spec PyProof.Rows
section
end
end L2

/-! ### E101: written lists of texts,read in one step -/
namespace L2
open PySem PySem.Spec PyProof.Rows
section
end
section
variable{X:Cx}{H0:Hp}{B0:Addr->Prop}{fr:Bool}{RX:XR}
theorem sb{st:Stmt}{g:SS->Option Out}(h:PS X st (tS X.K H0 B0 fr RX g)):PSb X st (tS X.K H0 B0 fr RX g):=by
 unfold PSb
 exact h
end
end L2

/-! ### E102: x=[written texts] as a whole statement -/
namespace L2
open PySem PySem.Spec PyProof.Rows
section
end
end L2

/-! ### E103: a module's def,as one fact -/
namespace L2
open PySem PySem.Spec PyProof.Rows
/-- the def is there -/
def FnG(K:aa)(x:Str)(st:Stmt):Prop:=∃f fd,aB K mainGlobals x=some (some (.ref f))∧Fun K x x st f fd
/-- the def as its callers know it -/
def FnB(K:aa)(mg:Str->Option Value)(x:Str)(st:Stmt)(ps:List Str):Prop:=∃f fd,Fun K x x st f fd∧mg x=some (.ref f)∧Binds K fd ps []
section
variable{K:aa}{x:Str}{st:Stmt}{h:Heap}{mg:Str->Option Value}
theorem y5C{ps:List Str}(X:K.In h)(G:h.Ns mainGlobals mg)(F:FnG K x st)(hb:∀(kV doc pm:Value) (an:Option Addr) (cdv ct:Value) (us:List Value),us.length=ps.length->bindArgs (aZ x x (z1J st) (z1d st) (z0f st) .none kV doc pm an cdv ct) ⟨us,[]⟩=pure (ps.zip us)):FnB K mg x st ps:=
 let⟨f,fd,a,F⟩:=F
 ⟨f,fd,F,cD X G a,F.binds hb⟩
theorem fg1{p0:Str}(X:K.In h)(G:h.Ns mainGlobals mg)(F:FnG K x st)(hb:∀(kV doc pm:Value) (an:Option Addr) (cdv ct u0:Value),bindArgs (aZ x x (z1J st) (z1d st) (z0f st) .none kV doc pm an cdv ct) ⟨[u0],[]⟩=pure ([p0].zip [u0]):=by intros;rfl):FnB K mg x st [p0]:=
 y5C X G F fun _ _ _ _ _ _ us hl=>match us,hl with | [_],_=>hb _ _ _ _ _ _ _
theorem fg2{p0 p1:Str}(X:K.In h)(G:h.Ns mainGlobals mg)(F:FnG K x st)(hb:∀(kV doc pm:Value) (an:Option Addr) (cdv ct u0 u1:Value),bindArgs (aZ x x (z1J st) (z1d st) (z0f st) .none kV doc pm an cdv ct) ⟨[u0,u1],[]⟩=pure ([p0,p1].zip [u0,u1]):=by intros;rfl):FnB K mg x st [p0,p1]:=
 y5C X G F fun _ _ _ _ _ _ us hl=>match us,hl with | [_,_],_=>hb _ _ _ _ _ _ _ _
theorem fg3{p0 p1 p2:Str}(X:K.In h)(G:h.Ns mainGlobals mg)(F:FnG K x st)(hb:∀(kV doc pm:Value) (an:Option Addr) (cdv ct u0 u1 u2:Value),bindArgs (aZ x x (z1J st) (z1d st) (z0f st) .none kV doc pm an cdv ct) ⟨[u0,u1,u2],[]⟩=pure ([p0,p1,p2].zip [u0,u1,u2]):=by intros;rfl):FnB K mg x st [p0,p1,p2]:=
 y5C X G F fun _ _ _ _ _ _ us hl=>match us,hl with | [_,_,_],_=>hb _ _ _ _ _ _ _ _ _
theorem fg4{p0 p1 p2 p3:Str}(X:K.In h)(G:h.Ns mainGlobals mg)(F:FnG K x st)(hb:∀(kV doc pm:Value) (an:Option Addr) (cdv ct u0 u1 u2 u3:Value),bindArgs (aZ x x (z1J st) (z1d st) (z0f st) .none kV doc pm an cdv ct) ⟨[u0,u1,u2,u3],[]⟩=pure ([p0,p1,p2,p3].zip [u0,u1,u2,u3]):=by intros;rfl):FnB K mg x st [p0,p1,p2,p3]:=
 y5C X G F fun _ _ _ _ _ _ us hl=>match us,hl with | [_,_,_,_],_=>hb _ _ _ _ _ _ _ _ _ _
theorem FnB.on{ps:List Str}{C:Prop}(B:FnB K mg x st ps)(k:∀{f:Addr} {fd:dP},Fun K x x st f fd->mg x=some (.ref f)->Binds K fd ps []->C):C:=
 let⟨_,_,F,m,b⟩:=B
 k F m b
theorem z1D{N P:List Str}{sc:d5}(h:N.Nodup∧(∀x∈P,sc.names.lookup x=some .local∨sc.names.lookup x=some .cell)∧∀y∈sc.names,y.2≠.free:=by decide +kernel)(h1:sc.kind = .function:=by rfl)(h2:sc.isCoroutine=false:=by rfl)(h3:sc.isGenerator=false:=by rfl)(h4:N.take P.length=P:=by rfl):FnScope N P sc:=
 ⟨h1,h2,h3,h.1,h4,h.2.1,h.2.2⟩
end
end L2

/-! ### E104: an exception from within x+y,[e],(a,e) -/
namespace L2
open PySem PySem.Spec PyProof.Rows
section
end
end L2

/-! ### E105: for x in [written texts]: with x[1].append(n) of a shared pair (d,list of ints) in its body,at the law's end: the written list is pinned,other lists of ints are forgotten -/
namespace L2
open PySem PySem.Spec PyProof.Rows
def AftP(p:Addr)(vs:List V)(K:aa)(H0:Hp)(B0:Addr->Prop)(fr:Bool)(H:Hp)(D:Ends):Out->Prop
 |.nx δ'=>∀σ' H' R',RS K H0 B0 H' σ' δ' R'->H' p=some (.lst vs)->(∀r,p∉R' r)->(∀a,H' a=none->H a=none)->D.nx σ' H'
 |.rt d=>∀v H',Ret K H0 B0 fr H' d v->(∀a,H' a=none->H a=none)->D.rt v H'
 |_=>False
def tP(p:Addr)(vs:List V)(K:aa)(H0:Hp)(B0:Addr->Prop)(fr:Bool)(g:SS->Option Out):TS:=fun D σ H=>∃δ R o,RS K H0 B0 H σ δ R∧H p=some (.lst vs)∧(∀r,p∉R r)∧g δ=some o∧AftP p vs K H0 B0 fr H D o
theorem AftP.back{p:Addr}{vs:List V}{K:aa}{H0:Hp}{B0:Addr->Prop}{fr:Bool}{H H1:Hp}{D:Ends}{o:Out}(h:AftP p vs K H0 B0 fr H D o)(s:∀a,H1 a=none->H a=none):AftP p vs K H0 B0 fr H1 D o:=by
 cases o with
 |nx δ'=>exact fun σ' H' R' r q n t=>h σ' H' R' r q n fun a z=>s a (t a z)
 |rt d=>exact fun v H' r t=>h v H' r fun a z=>s a (t a z)
 |_=>exact h
section
variable{X:Cx}{H0:Hp}{B0:Addr->Prop}{fr:Bool}{RX:XR}{st:Stmt}{p:Addr}{vs:List V}
theorem y5a{K:aa}{R:Nat->List Addr}{H:Hp}{D:Ends}{o:Out}(hp:H p=some (.lst vs))(nR:∀r,p∉R r)(k:AftP p vs K H0 B0 fr H D o):Aft K H0 B0 fr RX R H D o:=by
 cases o with
 |nx δ'=>exact fun σ' H' R' r t=>k σ' H' R' r (t.keep p _ hp nR) (fun r z=>by
   rcases t.from' r p z with⟨s,z⟩ | z
   ·exact nR s z
   ·rw[hp]at z;cases z) t.there
 |rt d=>exact k
 |bk _=>exact k.elim
 |ct _=>exact k.elim
 |rb _ _=>exact k.elim
 |ex _ _=>exact k.elim
theorem lp{g:SS->Option Out}(h:PS X st (tS X.K H0 B0 fr RX g)):PS X st (tP p vs X.K H0 B0 fr g):=PS.imp h fun D σ H ⟨δ,R,o,rs,hp,nR,q,k⟩=>⟨δ,R,o,rs,q,y5a hp nR k⟩
end
section
end
/-! the loop,and what comes after it to the def's end -/
section
end
/-! x=f(..) where f may raise and what it returns is shared -/
section
end
end L2

/-! ### E106: sorted of pairs: the library's tree of questions sorts -/
namespace L2
open PySem PySem.W PyProof.Rows
def kev{α:Type}(lt:Nat->Nat->Bool):KasT α->α
 |.ret a=>a
 |.ask i j k=>kev lt (k (lt i j))
theorem z1E{α β:Type}{lt:Nat->Nat->Bool}{f:α->KasT β}:∀t:KasT α,kev lt (t.bind f)=kev lt (f (kev lt t))
 |.ret _=>rfl
 |.ask i j k=>z1E (k (lt i j))
def gA(p:Array Nat)(i:Nat):Nat:=p.getD i 0
structure Ord(lt:Nat->Nat->Bool)(n:Nat):Prop where
 tr:∀a b c,lt a b=true->lt b c=true->lt a c=true
 tot:∀a<n,∀b<n,a≠b->lt a b=false->lt b a=true
 asy:∀a b,lt a b=true->lt b a=false
structure Pm(n:Nat)(p:Array Nat):Prop where
 sz:p.size=n
 lt:∀i<n,gA p i<n
 ne:∀i<n,∀j<n,i≠j->gA p i≠gA p j
def Srt(lt:Nat->Nat->Bool)(p:Array Nat)(k:Nat):Prop:=∀i j,i<j->j<k->lt (gA p i) (gA p j)=true
theorem y0N{p q:Array Nat}{i j:Nat}(h:p[i]? = q[j]?):gA p i=gA q j:=by
 unfold gA
 rw[aH,aH,h]
theorem Pm.perm{n:Nat}{p q:Array Nat}(h:q.Perm p)(P:Pm n p):Pm n q:=by
 have hs:q.size=n:=h.size_eq.trans P.sz
 have hl:q.toList.Perm p.toList:=bK.mp h
 have gl:∀(r:Array Nat) (i:Nat) (hi:i<r.toList.length),gA r i=r.toList[i]:=fun r i hi=>by
  unfold gA
  rw[aH,b9 (by simpa using hi)]
  simp
 have nd:p.toList.Nodup:=by
  refine ce.mpr fun i j hi hj hij e=>?_
  have hj':j<n:=by simpa[P.sz] using hj
  rw[←gl p i hi,←gl p j hj]at e
  exact P.ne i (by omega) j hj' (by omega) e
 have nq:q.toList.Nodup:=hl.nodup_iff.mpr nd
 refine⟨hs,fun i hi=>?_,fun i hi j hj hij e=>?_⟩
 ·have hi':i<q.toList.length:=by simpa[hs] using hi
  rw[gl q i hi']
  obtain⟨k,hk,ek⟩:=bf.mp (hl.mem_iff.mp (aU hi'))
  rw[←ek,←gl p k hk]
  exact P.lt k (by simpa[P.sz] using hk)
 ·have hi':i<q.toList.length:=by simpa[hs] using hi
  have hj':j<q.toList.length:=by simpa[hs] using hj
  rw[gl q i hi',gl q j hj']at e
  exact hij ((cu nq).mp e)
section
variable{lt:Nat->Nat->Bool}{n:Nat}{p:Array Nat}
theorem adj(O:Ord lt n)(P:Pm n p){a b:Nat}(ha:a<n)(hb:b<n)(hab:a≠b)(h:lt (gA p a) (gA p b)=false):lt (gA p b) (gA p a)=true:=O.tot _ (P.lt a ha) _ (P.lt b hb) (P.ne a ha b hb hab) h
theorem y5N(O:Ord lt n){k:Nat}(h:∀i,1≤i->i<k->lt (gA p (i - 1)) (gA p i)=true):Srt lt p k:=fun i j hij hj=>by
 obtain⟨d,rfl⟩:∃d,j=i+1+d:=⟨j - (i+1),by omega⟩
 clear hij
 induction d with
 |zero=>exact h (i+1) (by omega) hj
 |succ d ih=>exact O.tr _ _ _ (ih (by omega)) (h (i+1+(d+1)) (by omega) hj)
theorem y2I(O:Ord lt n)(P:Pm n p):∀{f m:Nat},1≤m->m+f≤n->m≤kev lt (kas_asc p f m)∧kev lt (kas_asc p f m)≤m+f∧(∀i,m≤i->i<kev lt (kas_asc p f m)->lt (gA p (i - 1)) (gA p i)=true)∧(kev lt (kas_asc p f m)<m+f->lt (gA p (kev lt (kas_asc p f m))) (gA p (kev lt (kas_asc p f m) - 1))=true)
 |0,m,_,_=>⟨ak _,ak _,fun i h1 h2=>absurd h2 (bP.mpr h1),fun h=>absurd h (bt _)⟩
 |f+1,m,h1,hf=>by
  have ee:kev lt (kas_asc p (f+1) m)=kev lt (if lt (gA p m) (gA p (m - 1))=true then .ret m else kas_asc p f (m+1)):=rfl
  rw[ee]
  cases hc:lt (gA p m) (gA p (m - 1))with
  |true=>
   rw[if_pos rfl]
   exact⟨ak m,Nat.le_add_right _ _,fun i a b=>absurd b (bP.mpr a),fun _=>hc⟩
  |false=>
   rw[if_neg aj]
   obtain⟨a1,a2,a3,a4⟩:=y2I O P (f:=f) (m:=m+1) (by omega) (by omega)
   refine⟨by omega,by omega,fun i hi hk=>?_,fun h=>a4 (by omega)⟩
   by_cases e:i=m
   ·subst e
    exact adj O P (by omega) (by omega) (by omega) hc
   ·exact a3 i (by omega) hk
theorem y0n(O:Ord lt n)(P:Pm n p):∀{f m:Nat},1≤m->m+f≤n->∃r,kev lt (kas_desc f p m 0)=(p,r,0)∧m≤r∧r≤m+f∧∀i,m≤i->i<r->lt (gA p i) (gA p (i - 1))=true
 |0,m,_,_=>⟨m,rfl,ak _,ak _,fun i h1 h2=>absurd h2 (bP.mpr h1)⟩
 |f+1,m,h1,hf=>by
  have ee:kev lt (kas_desc (f+1) p m 0)=kev lt (if lt (gA p m) (gA p (m - 1))=true then(if 0>0 then kas_desc f (kas_rev p (m - (0+1)) m) (m+1) 0 else kas_desc f p (m+1) 0)
   else .ask (p.getD (m - 1) 0) (p.getD m 0) fun d=>if d=true then .ret (p,m,0)else kas_desc f p (m+1) (0+1)):=rfl
  rw[ee]
  cases hc:lt (gA p m) (gA p (m - 1))with
  |true=>
   rw[if_pos rfl,if_neg (by omega)]
   obtain⟨r,e,a1,a2,a3⟩:=y0n O P (f:=f) (m:=m+1) (by omega) (by omega)
   refine⟨r,e,by omega,by omega,fun i hi hk=>?_⟩
   by_cases e:i=m
   ·subst e;exact hc
   ·exact a3 i (by omega) hk
  |false=>
   rw[if_neg aj]
   have h2:=adj O P (a:=m) (b:=m - 1) (by omega) (by omega) (by omega) hc
   have e2:kev lt (.ask (p.getD (m - 1) 0) (p.getD m 0) fun d=>if d=true then .ret (p,m,0)else kas_desc f p (m+1) (0+1))=kev lt (if lt (gA p (m - 1)) (gA p m)=true then .ret (p,m,0)else kas_desc f p (m+1) (0+1)):=rfl
   rw[e2,if_pos h2]
   exact⟨m,rfl,ak _,by omega,fun i a b=>absurd b (bP.mpr a)⟩
theorem y7l{m:Nat}(hm:m≤p.size)(k:Nat):gA (kas_rev p 0 m) k=if k<m then gA p (m - 1 - k)else gA p k:=by
 have e:=getElem?_mirror_all (i:=0) hm k
 by_cases h:k<m
 ·rw[if_pos ⟨bn _,h⟩]at e
  rw[if_pos h]
  exact(y0N e).trans (by congr 1;omega)
 ·rw[if_neg (by omega)]at e
  rw[if_neg h]
  exact y0N e
theorem rev_pm{m:Nat}(P:Pm n p):Pm n (kas_rev p 0 m):=P.perm (mirror_perm _ _ _ _)
theorem y5s(O:Ord lt n)(P:Pm n p)(h1:1≤n):1≤(kev lt (kas_count n p)).1∧(kev lt (kas_count n p)).1≤n∧(kev lt (kas_count n p)).2.Perm p∧Srt lt (kev lt (kas_count n p)).2 (kev lt (kas_count n p)).1:=by
 obtain⟨a1,a2,a3,a4⟩:=y2I O P (f:=n - 1) (m:=1) (ak _) (by omega)
 unfold kas_count
 rw[z1E]
 generalize hm:kev lt (kas_asc p (n - 1) 1)=m at a1 a2 a3 a4 ⊢
 have sm:=y5N O a3
 by_cases e:m=n
 ·rw[if_pos (by rw[e];exact beq_self_eq_true n)]
  exact⟨a1,by show m≤n;omega,Array.Perm.refl _,sm⟩
 ·rw[if_neg (by rw[beq_iff_eq];exact e)]
  by_cases g:m>1
  ·rw[if_pos g]
   have hs:lt (gA p 0) (gA p (m - 1))=true:=sm 0 (m - 1) (by omega) (by omega)
   have e2:kev lt (.ask (p.getD 0 0) (p.getD (m - 1) 0) fun c=>if c=true then .ret (m,p)else kas_descPart m n (kas_rev p 0 m))=kev lt (if lt (gA p 0) (gA p (m - 1))=true then .ret (m,p)else kas_descPart m n (kas_rev p 0 m)):=rfl
   rw[e2,if_pos hs]
   exact⟨a1,by show m≤n;omega,Array.Perm.refl _,sm⟩
  ·rw[if_neg g]
   have em:m=1:=by omega
   subst em
   unfold kas_descPart
   rw[z1E]
   obtain⟨r,er,b1,b2,b3⟩:=y0n O P (f:=n - (1+1)) (m:=1+1) (by omega) (by omega)
   rw[er]
   show 1≤(kev lt (if 0>0 then _ else kas_tail3 r n p)).1∧(kev lt (if 0>0 then _ else kas_tail3 r n p)).1≤n∧(kev lt (if 0>0 then _ else kas_tail3 r n p)).2.Perm p∧Srt lt (kev lt (if 0>0 then _ else kas_tail3 r n p)).2 (kev lt (if 0>0 then _ else kas_tail3 r n p)).1
   rw[if_neg (by omega)]
   have d1:∀i,1≤i->i<r->lt (gA p i) (gA p (i - 1))=true:=fun i hi hr=>by
    by_cases e:i=1
    ·subst e;exact a4 (by omega)
    ·exact b3 i (by omega) hr
   have hr:r≤p.size:=by rw[P.sz];omega
   have Pr:Pm n (kas_rev p 0 r):=rev_pm P
   obtain⟨c1,c2,c3,c4⟩:=y2I O Pr (f:=n - r) (m:=r) (by omega) (by omega)
   unfold kas_tail3
   rw[z1E]
   generalize hq:kev lt (kas_asc (kas_rev p 0 r) (n - r) r)=q at c1 c2 c3 c4 ⊢
   refine⟨by show 1≤q;omega,by show q≤n;omega,mirror_perm _ _ _ _,?_⟩
   show Srt lt (kas_rev p 0 r) q
   refine y5N O fun i hi hk=>?_
   by_cases hir:r≤i
   ·exact c3 i hir hk
   ·rw[y7l hr,y7l hr,if_pos (by omega),if_pos (by omega)]
    have:=d1 (r - 1 - (i - 1)) (by omega) (by omega)
    rw[show r - 1 - (i - 1) - 1=r - 1 - i by omega]at this
    exact this
theorem z5U(O:Ord lt n)(P:Pm n p){k:Nat}(hk:k<n)(S:Srt lt p k):∀{f l r:Nat},l≤r->r≤k->r - l≤f->(∀i<l,lt (gA p i) (gA p k)=true)->(∀i,r≤i->i<k->lt (gA p k) (gA p i)=true) →
  kev lt (kas_place p k f l r)≤k∧(∀i<kev lt (kas_place p k f l r),lt (gA p i) (gA p k)=true)∧(∀i,kev lt (kas_place p k f l r)≤i->i<k->lt (gA p k) (gA p i)=true)
 |0,l,r,h1,h2,h3,h4,h5=>⟨by show l≤k;omega,h4,fun i hi hk=>h5 i (by have hi:l≤i:=hi;omega) hk⟩
 |f+1,l,r,h1,h2,h3,h4,h5=>by
  unfold kas_place
  by_cases g:l ≥ r
  ·rw[if_pos g]
   exact⟨by show l≤k;omega,h4,fun i hi hk=>h5 i (by have hi:l≤i:=hi;omega) hk⟩
  ·rw[if_neg g]
   obtain⟨c,hc⟩:∃c,c=(l+r) / 2:=⟨_,rfl⟩
   rw[←hc]
   have e2:kev lt (.ask (p.getD k 0) (p.getD c 0) fun d=>if d=true then kas_place p k f l c else kas_place p k f (c+1) r)=kev lt (if lt (gA p k) (gA p c)=true then kas_place p k f l c else kas_place p k f (c+1) r):=rfl
   rw[e2]
   cases hd:lt (gA p k) (gA p c)with
   |true=>
    rw[if_pos rfl]
    refine z5U O P hk S (by omega) (by omega) (by omega) h4 fun i hi hik=>?_
    by_cases e:i=c
    ·subst e;exact hd
    ·exact O.tr _ _ _ hd (S c i (by omega) hik)
   |false=>
    rw[if_neg aj]
    have hlt:=adj O P (a:=k) (b:=c) hk (by omega) (by omega) hd
    refine z5U O P hk S (by omega) h2 (by omega) (fun i hi=>?_) h5
    by_cases e:i=c
    ·subst e;exact hlt
    ·exact O.tr _ _ _ (S i c (by omega) (by omega)) hlt
theorem y6n{k l:Nat}(hk:k<p.size)(hl:l≤k)(i:Nat):gA (bubble p k (k - l)) i=if i=l then gA p k else if l<i∧i≤k then gA p (i - 1)else gA p i:=by
 have e:=getElem?_bubble hk (k - l) (by omega) i
 rw[show k - (k - l)=l by omega]at e
 by_cases h1:i=l
 ·rw[if_pos h1]at e ⊢;exact y0N e
 ·rw[if_neg h1]at e ⊢
  by_cases h2:l<i∧i≤k
  ·rw[if_pos h2]at e ⊢;exact y0N e
  ·rw[if_neg h2]at e ⊢;exact y0N e
end
section
variable{lt:Nat->Nat->Bool}{n:Nat}
theorem y6V(O:Ord lt n):∀{f k:Nat} {p:Array Nat},Pm n p->k+f=n->Srt lt p k->(kev lt (kas_bin f p k)).Perm p∧Srt lt (kev lt (kas_bin f p k)) n
 |0,k,p,P,hk,S=>⟨Array.Perm.refl _,by rw[←hk];exact S⟩
 |f+1,k,p,P,hk,S=>by
  unfold kas_bin
  rw[z1E]
  obtain⟨a1,a2,a3⟩:=z5U O P (k:=k) (by omega) S (f:=k) (l:=0) (r:=k) (by omega) (ak _) (by omega) (fun i hi=>absurd hi (bZ _)) fun i h1 h2=>absurd h2 (bP.mpr h1)
  generalize hl:kev lt (kas_place p k k 0 k)=l at a1 a2 a3 ⊢
  have hks:k<p.size:=by rw[P.sz];omega
  have P':Pm n (bubble p k (k - l)):=P.perm (bubble_perm _ _ _)
  have S':Srt lt (bubble p k (k - l)) (k+1):=fun i j hij hj=>by
   rw[y6n hks a1,y6n hks a1]
   by_cases i1:i=l
   ·rw[if_pos i1,if_neg (by omega),if_pos (by omega)]
    exact a3 (j - 1) (by omega) (by omega)
   ·rw[if_neg i1]
    by_cases i2:l<i∧i≤k
    ·rw[if_pos i2,if_neg (by omega),if_pos (by omega)]
     exact S (i - 1) (j - 1) (by omega) (by omega)
    ·rw[if_neg i2]
     by_cases j1:j=l
     ·rw[if_pos j1];exact a2 i (by omega)
     ·rw[if_neg j1]
      by_cases j2:l<j∧j≤k
      ·rw[if_pos j2]
       exact S i (j - 1) (by omega) (by omega)
      ·rw[if_neg j2]
       exact S i j hij (by omega)
  obtain⟨b1,b2⟩:=y6V O (f:=f) (k:=k+1) P' (by omega) S'
  exact⟨b1.trans (bubble_perm _ _ _),b2⟩
theorem rng_pm:Pm n (aI (ar n)):=by
 have g:∀i<n,gA (aI (ar n)) i=i:=fun i hi=>by
  unfold gA
  rw[aH]
  simp[hi]
 exact⟨by simp,fun i hi=>by rw[g i hi];exact hi,fun i hi j hj hij=>by rw[g i hi,g j hj];exact hij⟩
theorem sort_ev(O:Ord lt n)(h1:1≤n):(kev lt (kas_sort n)).Perm (aI (ar n))∧Srt lt (kev lt (kas_sort n)) n:=by
 obtain⟨a1,a2,a3,a4⟩:=y5s O (rng_pm (n:=n)) h1
 unfold kas_sort
 rw[z1E]
 generalize hr:kev lt (kas_count n (aI (ar n)))=r at a1 a2 a3 a4 ⊢
 by_cases g:r.1<n
 ·rw[if_pos g,show max r.1 1=r.1 by omega]
  obtain⟨b1,b2⟩:=y6V O (f:=n - r.1) (k:=r.1) (rng_pm.perm a3) (by omega) a4
  exact⟨b1.trans a3,b2⟩
 ·rw[if_neg g]
  have:r.1=n:=by omega
  rw[this]at a4
  exact⟨a3,a4⟩
end
/-! only what is there is asked for -/
def kok{α:Type}(lt:Nat->Nat->Bool)(n:Nat):KasT α->Prop
 |.ret _=>True
 |.ask i j k=>i<n∧j<n∧kok lt n (k (lt i j))
theorem z2U{α β:Type}{lt:Nat->Nat->Bool}{n:Nat}{f:α->KasT β}:∀t:KasT α,kok lt n t->kok lt n (f (kev lt t))->kok lt n (t.bind f)
 |.ret _,_,h=>h
 |.ask i j k,⟨h1,h2,h3⟩,h=>⟨h1,h2,z2U (k (lt i j)) h3 h⟩
theorem y5M{α:Type}{lt:Nat->Nat->Bool}{n:Nat}{cmp:Nat->Nat->(Bool->dw->Prop)->dw->Prop}{s:dw}{Q:α->dw->Prop}(hc:∀i<n,∀j<n,∀C,C (lt i j) s->cmp i j C s):∀t:KasT α,kok lt n t->Q (kev lt t) s->t.kasWp cmp Q s
 |.ret _,_,h=>h
 |.ask i j k,⟨h1,h2,h3⟩,h=>hc i h1 j h2 _ (y5M hc (k (lt i j)) h3 h)
def Bd(n:Nat)(p:Array Nat):Prop:=∀i,p.getD i 0<n
theorem Bd.perm{n:Nat}{p q:Array Nat}(h0:0<n)(h:q.Perm p)(b:Bd n p):Bd n q:=fun i=>by
 rw[aH]
 cases e:q[i]? with
 |none=>exact h0
 |some x=>
  show x<n
  have hx:x∈q:=Array.mem_of_getElem? e
  have hx:x∈p:=h.mem_iff.mp hx
  obtain⟨j,hj,ej⟩:=Array.mem_iff_getElem.mp hx
  have:=b j
  rw[aH,b9 hj,ej]at this
  exact this
section
variable{lt:Nat->Nat->Bool}{n:Nat}
theorem y2B{p:Array Nat}(b:Bd n p):∀{f m:Nat},kok lt n (kas_asc p f m)
 |0,_=>trivial
 |f+1,m=>⟨b _,b _,by
  show kok lt n (if lt _ _=true then KasT.ret m else kas_asc p f (m+1))
  split
  ·exact trivial
  ·exact y2B b⟩
theorem z3P{p:Array Nat}{i j:Nat}(h0:0<n)(b:Bd n p):Bd n (kas_rev p i j):=b.perm h0 (mirror_perm _ _ _ _)
theorem z3j(h0:0<n):∀{f m q:Nat} {p:Array Nat},Bd n p->kok lt n (kas_desc f p m q)∧Bd n (kev lt (kas_desc f p m q)).1
 |0,_,_,_,b=>⟨trivial,b⟩
 |f+1,m,q,p,b=>by
  unfold kas_desc
  show(_<n∧_<n∧kok lt n (if lt _ _=true then _ else _))∧Bd n (kev lt (if lt _ _=true then _ else _:KasT (Array Nat×Nat×Nat))).1
  split
  ·split
   ·exact⟨⟨b _,b _,(z3j h0 (z3P h0 b)).1⟩,(z3j h0 (z3P h0 b)).2⟩
   ·exact⟨⟨b _,b _,(z3j h0 b).1⟩,(z3j h0 b).2⟩
  ·show(_<n∧_<n∧_<n∧_<n∧kok lt n (if lt _ _=true then _ else _))∧Bd n (kev lt (if lt _ _=true then _ else _:KasT (Array Nat×Nat×Nat))).1
   split
   ·exact⟨⟨b _,b _,b _,b _,trivial⟩,b⟩
   ·exact⟨⟨b _,b _,b _,b _,(z3j h0 b).1⟩,(z3j h0 b).2⟩
theorem z5D(h0:0<n){p:Array Nat}(b:Bd n p){r k:Nat}:kok lt n (kas_tail3 r k p)∧Bd n (kev lt (kas_tail3 r k p)).2:=by
 unfold kas_tail3
 rw[z1E]
 exact⟨z2U _ (y2B (z3P h0 b)) trivial,z3P h0 b⟩
theorem z3m(h0:0<n){p:Array Nat}(b:Bd n p){r k:Nat}:kok lt n (kas_descPart r k p)∧Bd n (kev lt (kas_descPart r k p)).2:=by
 unfold kas_descPart
 rw[z1E]
 have d:=z3j (lt:=lt) h0 (f:=k - (r+1)) (m:=r+1) (q:=0) b
 refine⟨z2U _ d.1 ?_,?_⟩
 ·split
  ·exact(z5D h0 (z3P h0 d.2)).1
  ·exact(z5D h0 d.2).1
 ·split
  ·exact(z5D h0 (z3P h0 d.2)).2
  ·exact(z5D h0 d.2).2
theorem y5x(h0:0<n){p:Array Nat}(b:Bd n p){k:Nat}:kok lt n (kas_count k p)∧Bd n (kev lt (kas_count k p)).2:=by
 unfold kas_count
 rw[z1E]
 have main:kok lt n (if((kev lt (kas_asc p (k - 1) 1))==k)=true then KasT.ret (kev lt (kas_asc p (k - 1) 1),p)else if kev lt (kas_asc p (k - 1) 1)>1 then .ask (p.getD 0 0) (p.getD (kev lt (kas_asc p (k - 1) 1) - 1) 0) fun c=>if c=true then .ret (kev lt (kas_asc p (k - 1) 1),p)else kas_descPart (kev lt (kas_asc p (k - 1) 1)) k (kas_rev p 0 (kev lt (kas_asc p (k - 1) 1)))
  else kas_descPart (kev lt (kas_asc p (k - 1) 1)) k p)∧Bd n (kev lt (if((kev lt (kas_asc p (k - 1) 1))==k)=true then KasT.ret (kev lt (kas_asc p (k - 1) 1),p)else if kev lt (kas_asc p (k - 1) 1)>1 then .ask (p.getD 0 0) (p.getD (kev lt (kas_asc p (k - 1) 1) - 1) 0) fun c=>if c=true then .ret (kev lt (kas_asc p (k - 1) 1),p)else kas_descPart (kev lt (kas_asc p (k - 1) 1)) k (kas_rev p 0 (kev lt (kas_asc p (k - 1) 1)))
  else kas_descPart (kev lt (kas_asc p (k - 1) 1)) k p)).2:=by
  generalize kev lt (kas_asc p (k - 1) 1)=m
  split
  ·exact⟨trivial,b⟩
  ·split
   ·show(_<n∧_<n∧kok lt n (if lt _ _=true then _ else _))∧Bd n (kev lt (if lt _ _=true then _ else _:KasT (Nat×Array Nat))).2
    split
    ·exact⟨⟨b _,b _,trivial⟩,b⟩
    ·exact⟨⟨b _,b _,(z3m h0 (z3P h0 b)).1⟩,(z3m h0 (z3P h0 b)).2⟩
   ·exact z3m h0 b
 exact⟨z2U _ (y2B b) main.1,main.2⟩
theorem z6a{p:Array Nat}(b:Bd n p){k:Nat}:∀{f l r:Nat},kok lt n (kas_place p k f l r)
 |0,_,_=>trivial
 |f+1,l,r=>by
  unfold kas_place
  split
  ·exact trivial
  ·show _<n∧_<n∧kok lt n (if lt _ _=true then _ else _)
   refine⟨b _,b _,?_⟩
   split
   ·exact z6a b
   ·exact z6a b
theorem y7r(h0:0<n):∀{f k:Nat} {p:Array Nat},Bd n p->kok lt n (kas_bin f p k)
 |0,_,_,_=>trivial
 |f+1,k,p,b=>by
  unfold kas_bin
  exact z2U _ (z6a b) (y7r h0 (b.perm h0 (bubble_perm _ _ _)))
theorem sort_ok(h0:0<n):kok lt n (kas_sort n):=by
 have b:Bd n (aI (ar n)):=fun i=>by
  rw[aH]
  by_cases h:i<n
  ·simp[h]
  ·simp[h,h0]
 have c:=y5x (lt:=lt) h0 b (k:=n)
 unfold kas_sort
 refine z2U _ c.1 ?_
 split
 ·exact y7r h0 c.2
 ·exact trivial
end
end L2

/-! ### E107: sorted of a list of unlike pairs of ints -/
namespace L2
open PySem PySem.Spec PySem.W PyProof.Rows
def z5j(a b:Int×Int):Bool:=decide (a.1<b.1)||(decide (a.1=b.1)&&decide (a.2<b.2))
theorem z0P{a b:Int×Int}:z5j a b=true↔a.1<b.1∨(a.1=b.1∧a.2<b.2):=by
 unfold z5j
 rw[Bool.or_eq_true,aF,decide_eq_true_eq,decide_eq_true_eq,decide_eq_true_eq]
def IsPr(h:Heap)(v:Value)(k:Int×Int):Prop:=∃a o t u n,v = .ref a∧h.get? a=some o∧o.cls = .type "tuple" ∧ o.data = .seq #[.int k.1 t,.int k.2 u] n
inductive PrsAre(h:Heap):List Value->List (Int×Int)->Prop
 |nil:PrsAre h [] []
 |cons {v:Value} {k:Int×Int} {vs:List Value} {ks:List (Int×Int)}:IsPr h v k->PrsAre h vs ks->PrsAre h (v::vs) (k::ks)
section
variable{prog:dN}{w:dO}{A:Around}{E:Value->dw->Prop}{s:dw}
theorem pr_lt{x y:Value}{a b:Int×Int}{Q:Bool->dw->Prop}(hx:IsPr s.heap x a)(hy:IsPr s.heap y b)(h:Q (z5j a b) s):wpAny (model prog w) A (keyLt' (tuples' true) x y) Q E s:=by
 obtain⟨xa,xo,xt,xu,xn,rfl,xg,xc,xd⟩:=hx
 obtain⟨ya,yo,yt,yu,yn,rfl,yg,yc,yd⟩:=hy
 refine kat_lt xg xd yg yd ?_
 show KatLex prog w A true (decide (2<2)) Q [(.int a.1 xt,.int b.1 yt),(.int a.2 xu,.int b.2 yu)] 0 s
 refine kat_cons (wpAny_eqBool_int (kat_go (fun e=>?_) fun e=>?_))
 ·have e1:a.1=b.1:=by simpa using e
  refine kat_yes (kat_cons (wpAny_eqBool_int (kat_go (fun e=>?_) fun e=>?_)))
  ·have e2:a.2=b.2:=by simpa using e
   refine kat_yes (kat_nil ?_)
   have:z5j a b=false:=by
    rw[←bV,z0P]
    omega
   rw[this]at h
   exact h
  ·refine kat_no (kat_one _ _ (wpAny_lt_int ?_))
   show Q (decide (a.2<b.2)) s
   have:z5j a b=decide (a.2<b.2):=by
    rw[bX,z0P,decide_eq_true_eq]
    omega
   rw[←this]
   exact h
 ·have e1:a.1≠b.1:=by simpa using e
  refine kat_no (oneLt_int ?_)
  have:z5j a b=decide (a.1<b.1):=by
   rw[bX,z0P,decide_eq_true_eq]
   omega
  rw[←this]
  exact h
theorem z8z{h:Heap}:∀{vs:List Value} {ks:List (Int×Int)},PrsAre h vs ks->∃fs,KatTups h vs fs∧fs.length=vs.length∧∀v∈fs,∃n t,v = .int n t
 |_,_,.nil=>⟨[],.nil,rfl,fun _ h=>nomatch h⟩
 |_,_,.cons ⟨a,o,t,u,n,e,g,c,d⟩ r=>by
  subst e
  obtain⟨fs,h1,h2,h3⟩:=z8z r
  refine⟨_::fs,.cons g c d rfl h1,by simp[h2],fun v hv=>?_⟩
  rcases aq.mp hv with rfl | hv
  ·exact⟨_,_,rfl⟩
  ·exact h3 v hv
theorem y0G{h:Heap}:∀{vs:List Value} {ks:List (Int×Int)},PrsAre h vs ks->vs.length=ks.length
 |_,_,.nil=>rfl
 |_,_,.cons _ r=>by rw[bv,bv,y0G r]
theorem z7U{h:Heap}:∀{vs:List Value} {ks:List (Int×Int)} (i:Nat),PrsAre h vs ks->i<vs.length->IsPr h (vs.getD i .none) (ks.getD i (0,0))
 |[],[],_,_,hi=>absurd hi (bZ _)
 |_::_,_::_,0,.cons a r,_=>a
 |_::_,_::_,i+1,.cons a r,hi=>z7U i r (cB hi)
theorem z6d{h h':Heap}(k:∀a o,h.get? a=some o->o.cls = .type "tuple" → h'.get? a=some o):∀{vs:List Value} {ks:List (Int×Int)},PrsAre h vs ks->PrsAre h' vs ks
 |_,_,.nil=>.nil
 |_,_,.cons ⟨a,o,t,u,n,e,g,c,d⟩ r=>.cons ⟨a,o,t,u,n,e,k a o g c,c,d⟩ (z6d k r)
/-- the order in which the things at these places stand -/
def KLt(ks:List (Int×Int))(i j:Nat):Bool:=z5j (ks.getD i (0,0)) (ks.getD j (0,0))
theorem klt_ord{ks:List (Int×Int)}(nd:ks.Nodup):Ord (KLt ks) ks.length:=by
 refine⟨fun a b c h1 h2=>?_,fun a ha b hb hab h=>?_,fun a b h=>?_⟩
 ·unfold KLt at *
  rw[z0P]at *
  omega
 ·unfold KLt at *
  have hne:ks.getD a (0,0)≠ks.getD b (0,0):=fun e=>by
   rw[ao,ao,ae ha,ae hb]at e
   exact hab ((cu nd).mp e)
  rw[←bV,z0P]at h
  rw[z0P]
  by_cases e:(ks.getD a (0,0)).1=(ks.getD b (0,0)).1
  ·have:(ks.getD a (0,0)).2≠(ks.getD b (0,0)).2:=fun e'=>hne (Prod.ext e e')
   omega
  ·omega
 ·unfold KLt at *
  rw[←bV,z0P]
  rw[z0P]at h
  omega
theorem z4S{a:Addr}{vs:List Value}{ks:List (Int×Int)}{n:Nat}{P:Fin->dw->Prop}(ho:s.heap.get? a=some (seqObj "list" vs.toArray n))
  (hI:PrsAre s.heap vs ks) (nd:ks.Nodup) (h0:0<vs.length) (h64:vs.length<64)
  (h:∀p:Array Nat,p.Perm (aI (ar vs.length))->Srt (KLt ks) p vs.length->P (.done (.ret .none)) { s with heap:=sortedHeap s.heap a vs (aI (p.toList.map fun i=>vs.getD i Value.none)) }):
  wpAny (model prog w) A (Builtin.«list.sort» ⟨[.ref a],[]⟩) P E s:=by
 rw[list_sort_plain]
 have ha:a<s.heap.objs.size:=Heap.lt_size ho
 refine wpAny_bind (listItems_at ho rfl ?_)
 refine wpAny_bind (listUpdate_at ho rfl ?_)
 obtain⟨e1,ho1⟩:∃e1,(s.heap.update a (Obj.mapSeq fun _=>#[])).get? a=some (seqObj "list" #[] e1):=⟨_,get?_update_seq ho (fun _=>#[])⟩
 refine wpAny_bind (seqEpoch_at ho1 rfl ?_)
 refine wpAny_bind (wpAny_newTuple ?_)
 refine wpAny_bind (wpAny_newList ?_)
 refine wpAny_holding ?_
 have ho6:(((s.heap.update a (Obj.mapSeq fun _=>#[])).push (seqObj "tuple" vs.toArray 0)).push (seqObj "list" #[] 0)).get? a=some (seqObj "list" #[] e1):=by
  rw[Heap.get?_push_ne _ _ _ (by rw[size_push',Heap.size_update];exact ax (bI ha)),Heap.get?_push_ne _ _ _ (by rw[Heap.size_update];exact ax ha)]
  exact ho1
 have kp:∀b o,s.heap.get? b=some o->o.cls = .type "tuple" → (((s.heap.update a (Obj.mapSeq fun _=>#[])).push (seqObj "tuple" vs.toArray 0)).push (seqObj "list" #[] 0)).get? b=some o:=fun b o hb hc=>by
  have hlt:b<s.heap.objs.size:=Heap.lt_size hb
  have hne:b≠a:=fun e=>by
   rw[e,ho]at hb
   cases hb
   have hc:Value.type "list" = Value.type "tuple" := hc
   exact absurd hc (by decide)
  rw[Heap.get?_push_ne _ _ _ (by rw[size_push',Heap.size_update];exact ax (bI hlt)),Heap.get?_push_ne _ _ _ (by rw[Heap.size_update];exact ax hlt),Heap.get?_update_ne _ _ _ _ hne]
  exact hb
 show wpAny (model prog w) A _ P E { s with heap:=((s.heap.update a (Obj.mapSeq fun _=>#[])).push (seqObj "tuple" vs.toArray 0)).push (seqObj "list" #[] 0) }
 dsimp only
 have hsz:vs.toArray.size=vs.length:=by simp
 by_cases h2:vs.toArray.size<2
 ·rw[if_pos h2,if_pos h2]
  refine wpAny_bind (wpAny_pure ?_)
  rw[StateT.run_pure]
  refine wpAny_bind (wpAny_pure ?_)
  dsimp only
  refine wpAny_bind (seqEpoch_at ho6 rfl ?_)
  refine wpAny_bind (listUpdate_at ho6 rfl ?_ (hsz2:=by rw[Array.size_map];show(pairsOf vs).size≤_;rw[pairsOf_size,sizeLine_eq];omega))
  simp only[bne_self_eq_false,b8,if_false]
  have e1:vs.length=1:=by omega
  have:=h (aI (ar vs.length)) (Array.Perm.refl _) fun i j hij hj=>by omega
  refine wpAny_pure ?_
  match vs,e1,this with
  |[v],_,this=>
   have e:aI ((aI (ar [v].length)).toList.map fun i=>[v].getD i Value.none)=(arrOf (SortSt.mk' general' (#[v].zip #[v]) #[] 7 none)).map (·.2):=Array.toList_inj.mp (by
    show [v]=((#[v].zip #[v]).map (·.2)).toList
    simp)
   rw[e]at this
   exact this
 ·rw[if_neg h2,if_neg h2]
  have I6:=z6d kp hI
  obtain⟨fs,t1,t2,t3⟩:=z8z I6
  refine wpAny_bind (kat_kind (T:=Value.type "int") t1 (by omega) (fun v hv=>?_) rfl ?_)
  ·obtain⟨m,t,rfl⟩:=t3 v hv
   exact .now
  ·have ht:(Value.type "int" != Value.type "tuple")=true:=by decide
   rw[ht]
   refine wpAny_bind (wpAny_mono (kat_run (ks:=vs) (vs:=vs) (κ:=tuples' true) (Q:=fun st' s'=>∃p:Array Nat,s' = { s with heap:=((s.heap.update a (Obj.mapSeq fun _=>#[])).push (seqObj "tuple" vs.toArray 0)).push (seqObj "list" #[] 0) }∧p.size=vs.length∧arrOf st'=p.map (kas_item (vs.toArray.zip vs.toArray))∧failedOf st'=none∧p.Perm (aI (ar vs.length))∧Srt (KLt ks) p vs.length)
    (G:=fun p s'=>s' = { s with heap:=((s.heap.update a (Obj.mapSeq fun _=>#[])).push (seqObj "tuple" vs.toArray 0)).push (seqObj "list" #[] 0) }∧p.Perm (aI (ar vs.length))∧Srt (KLt ks) p vs.length) rfl (by omega) h64 (fun p st' s' hs har hf hG=>⟨p,hG.1,hs,har,hf,hG.2.1,hG.2.2⟩) ?_) (fun r s' hr=>?_) fun _ _ e=>e)
   ·have hl:=y0G hI
    have ev:=sort_ev (klt_ord nd) (by omega)
    rw[←hl]at ev
    refine y5M (lt:=KLt ks) (n:=vs.length) (fun i hi j hj C hC=>?_) _ (sort_ok h0) ⟨rfl,ev.1,ev.2⟩
    exact pr_lt (z7U i I6 hi) (z7U j I6 hj) hC
   ·obtain⟨⟨⟩,st'⟩:=r
    obtain⟨p,rfl,hs,har,hf,hp,hq⟩:=hr
    dsimp only
    have eo:=kat_snds (vs:=vs) (ks:=vs) rfl har
    rw[hf,eo]
    refine wpAny_bind (seqEpoch_at ho6 rfl ?_)
    refine wpAny_bind (listUpdate_at ho6 rfl ?_ (hsz2:=by rw[ai,ah,bY,hs,sizeLine_eq];omega))
    simp only[bne_self_eq_false,b8,if_false]
    exact wpAny_pure (h p hp hq)
end
end L2

/-! ### E108: sorted(xs) of unlike pairs of ints,as an expression -/
namespace L2
open PySem PySem.Spec PySem.W PyProof.Rows
section
variable{prog:dN}{w:dO}{A:Around}{E:Value->dw->Prop}{s:dw}
theorem z9S{l:Addr}{o:Obj}{vs:List Value}{n:Nat}{ks:List (Int×Int)}{Q:Value->dw->Prop}(ho:s.heap.get? l=some o)(hc:o.cls = .type "list")(hd:o.data = .seq vs.toArray n)(hI:PrsAre s.heap vs ks)(nd:ks.Nodup)(h0:0<vs.length)(h64:vs.length<64)
  (h:∀(h1 h':Heap) (p:Array Nat) (e:Nat),(∀b o',s.heap.get? b=some o'->h1.get? b=some o')->(∀b o',h1.get? b=some o'->h'.get? b=some o')->h'.get? h1.objs.size=some { cls:=.type "list",data:=.seq (aI (p.toList.map fun i=>vs.getD i Value.none)) e }->p.Perm (aI (ar vs.length))->Srt (KLt ks) p vs.length->Q (.ref h1.objs.size) { s with heap:=h' }):
  wpAny (model prog w) A (call (.builtin "sorted") [.ref l]) Q E s:=by
 refine Calls.call_function_entry kind_sorted plain_sorted entry_sorted (args_sorted1 _) ?_
 unfold Builtin.«sorted»
 refine wpAny_bind (m:=checkCount "sorted" 1 1 _) (wpAny_pure ?_)
 refine wpAny_bind (wpAny_collect_seq l (.inl rfl) ho hc hd (fun h1 k1=>?_) (by rw[ai,sizeLine_eq];omega))
 rw[List.toList_toArray]
 refine wpAny_bind (wpAny_newList ?_)
 have hoL:(h1.push (seqObj "list" vs.toArray 0)).get? h1.objs.size=some (seqObj "list" vs.toArray 0):=Heap.get?_push_size _ rfl
 show wpAny _ _ _ _ _ { s with heap:=h1.push (seqObj "list" vs.toArray 0) }
 have I2:PrsAre (h1.push (seqObj "list" vs.toArray 0)) vs ks:=z6d (fun a o q _=>Heap.get?_push_of_some _ (k1 a o q)) hI
 refine wpAny_bind (wpAny_holding (wpAny_call_entry slot_list_sort ⟨_,hoL,rfl⟩ entry_list_sort (z4S hoL I2 nd h0 h64 fun p a1 a2=>⟨_,rfl,?_⟩) (args_list_sort _)))
 obtain⟨e,he⟩:=sortedHeap_at (out:=aI (p.toList.map fun i=>vs.getD i Value.none)) hoL
 refine wpAny_pure ⟨_,rfl,h h1 _ p e k1 (fun b o' hb=>?_) (by simpa[seqObj] using he) a1 a2⟩
 have hlt:b<h1.objs.size:=Heap.lt_size hb
 rw[sortedHeap_old (ax hlt) (by rw[size_push'];exact bI hlt)]
 exact Heap.get?_push_of_some _ hb
end
section
variable{X:Cx}
inductive PrV(K:aa)(H:Hp):List V->List (Int×Int)->Prop
 |nil:PrV K H [] []
 |cons {a:Addr} {k:Int×Int} {vs:List V} {ks:List (Int×Int)}:SqT K H a [.int k.1,.int k.2]->PrV K H vs ks->PrV K H (.ref a::vs) (k::ks)
theorem y2g{pins:List (Addr×Obj)}{σ:St}{H:Hp}{s:dw}(I:Inv X pins σ H s):∀{vs:List V} {ks:List (Int×Int)} {us:List Value},PrV X.K H vs ks->Vals vs us->PrsAre s.heap us ks
 |_,_,_,.nil,.nil=>.nil
 |_,_,_,.cons h r,.cons e q=>by
  cases e
  obtain⟨its,ob,n,rv,e,c,_,d,_⟩:=I.tupleO h
  obtain⟨u,u2,rfl,r1,r2⟩:=vals2 rv
  obtain⟨t,rfl⟩:=r1
  obtain⟨t2,rfl⟩:=r2
  exact .cons ⟨_,ob,t,t2,n,rfl,e,c,d⟩ (y2g I r q)
theorem z7b:∀{vs:List V} {us:List Value} (i:Nat),Vals vs us->i<vs.length->RelV (vs.getD i .non) (us.getD i .none)
 |_,_,_,.nil,hi=>absurd hi (bZ _)
 |_,_,0,.cons h r,_=>h
 |_,_,i+1,.cons h r,hi=>z7b i r (cB hi)
theorem z6B{vs:List V}{us:List Value}(r:Vals vs us):∀{l:List Nat},(∀i∈l,i<vs.length)->Vals (l.map fun i=>vs.getD i .non) (l.map fun i=>us.getD i .none)
 |[],_=>.nil
 |i::l,h=>.cons (z7b i r (h i ag)) (z6B r fun j hj=>h j (ac _ hj))
theorem z7s:CallR X (.builtin "sorted") (fun xs H Q=>∃(p:Addr) (vs:List V) (ks:List (Int×Int)),xs=[.ref p]∧SqL X.K H p vs∧PrV X.K H vs ks∧ks.Nodup∧0<vs.length∧vs.length<64 ∧
  ∀l (π:Array Nat),H l=none->π.Perm (aI (ar vs.length))->Srt (KLt ks) π vs.length->Q (.ref l) (upd H l (.lst (π.toList.map fun i=>vs.getD i .non)))):=by
 intro pins s σ H xs us Q I r h
 obtain⟨p,vs,ks,rfl,hq,hv,nd,h0,h64,q⟩:=h
 obtain⟨u,rfl,rx⟩:=y4n r
 cases rx
 obtain⟨its,rv,⟨o,n,e,c,_,d⟩,hz⟩:=I.list hq
 have hlen:vs.length=its.length:=rv.length
 refine z9S e c d (y2g I hv rv) nd (by omega) (by omega) fun h1 h' π e' k1 k2 ho hp hs=>?_
 rw[←hlen]at hp hs
 have I1:Inv X pins σ H { s with heap:=h1 }:=I.kept (t':=s.toks) k1
 have hl:π.toList.Perm (ar vs.length):=by simpa using bK.mp hp
 refine⟨.ref h1.objs.size,_,Inv.laid (s:={ s with heap:=h1 }) (t':=s.toks) I1 k2 (ak _) (show ObjOk X.prog X.w _ h' _ (.lst (π.toList.map fun i=>vs.getD i .non)) from⟨?_,_,e',z6B rv fun i hi=>aD.mp (hl.mem_iff.mp hi),ho⟩),rfl,q _ π (I1.hok.fresh (ak _)) hp hs⟩
 rw[ah,hl.length_eq,bQ,sizeLine_eq]
 omega
end
end L2

/-! ### E109: sorted(xs) of unlike pairs of ints: its mirror -/
namespace L2
open PySem PySem.Spec PySem.W PyProof.Rows
def prI(k:Int×Int):D:=.tup [.int k.1,.int k.2]
def y6c:List D->Option (List (Int×Int))
 |[]=>some []
 |.tup [.int a,.int b]::r=>(y6c r).map ((a,b) :: ·)
 |_=>none
theorem z8L:∀{ds:List D} {ks:List (Int×Int)},y6c ds=some ks->ds=ks.map prI
 |[],_,h=>by cases h;rfl
 |d::ds,ks,h=>by
  unfold y6c at h
  split at h
  ·rename_i e;cases e
  ·rename_i a b r e
   cases e
   obtain⟨l,hl,rfl⟩:=Option.map_eq_some_iff.mp h
   rw[z8L hl]
   rfl
  ·cases h
theorem y3g:∀ks:List (Int×Int),y6c (ks.map prI)=some ks
 |[]=>rfl
 |k::r=>by
  show(y6c (r.map prI)).map ((k.1,k.2) :: ·)=_
  rw[y3g r]
  rfl
def insP(x:Int×Int):List (Int×Int)->List (Int×Int)
 |[]=>[x]
 |y::r=>if z5j x y=true then x::y::r else y::insP x r
def srtP:List (Int×Int)->List (Int×Int)
 |[]=>[]
 |x::r=>insP x (srtP r)
theorem z4L(x:Int×Int):∀l:List (Int×Int),(insP x l).Perm (x::l)
 |[]=>.refl _
 |y::r=>by
  unfold insP
  split
  ·exact .refl _
  ·exact((z4L x r).cons y).trans (.swap x y r)
theorem z4Y:∀l:List (Int×Int),(srtP l).Perm l
 |[]=>.refl _
 |x::r=>(z4L x _).trans ((z4Y r).cons x)
theorem lexB_tr{a b c:Int×Int}(h1:z5j a b=true)(h2:z5j b c=true):z5j a c=true:=by
 rw[z0P]at *
 omega
theorem y5H{a b:Int×Int}(hne:a≠b)(h:z5j a b≠true):z5j b a=true:=by
 rw[Ne,z0P]at h
 rw[z0P]
 by_cases e:a.1=b.1
 ·have:a.2≠b.2:=fun e'=>hne (Prod.ext e e')
  omega
 ·omega
theorem lexB_no{a b:Int×Int}(h1:z5j a b=true)(h2:z5j b a=true):False:=by
 rw[z0P]at *
 omega
theorem z4G{x:Int×Int}:∀{l:List (Int×Int)},x∉l->l.Pairwise (fun a b=>z5j a b=true)->(insP x l).Pairwise (fun a b=>z5j a b=true)
 |[],_,_=>List.pairwise_singleton _ _
 |y::r,hx,h=>by
  obtain⟨h1,h2⟩:=bN.mp h
  unfold insP
  split
  ·rename_i hxy
   refine bN.mpr ⟨fun z hz=>?_,h⟩
   rcases aq.mp hz with e | e
   ·rw[e];exact hxy
   ·exact lexB_tr hxy (h1 z e)
  ·rename_i hxy
   refine bN.mpr ⟨fun z hz=>?_,z4G (fun z=>hx (ac _ z)) h2⟩
   rcases aq.mp ((z4L x r).mem_iff.mp hz)with e | e
   ·rw[e]
    exact y5H (fun w=>hx (by rw[w];exact ag)) hxy
   ·exact h1 z e
theorem z4p:∀{l:List (Int×Int)},l.Nodup->(srtP l).Pairwise (fun a b=>z5j a b=true)
 |[],_=>.nil
 |x::r,h=>z4G (fun z=>(am.mp h).1 ((z4Y r).mem_iff.mp z)) (z4p (am.mp h).2)
theorem z4J:∀{a b:List (Int×Int)},a.Perm b->a.Pairwise (fun a b=>z5j a b=true)->b.Pairwise (fun a b=>z5j a b=true)->a=b
 |[],b,p,_,_=>(List.nil_perm.mp p).symm
 |x::a,[],p,_,_=>by have:=p.length_eq;simp at this
 |x::a,y::b,p,ha,hb=>by
  obtain⟨ha1,ha2⟩:=bN.mp ha
  obtain⟨hb1,hb2⟩:=bN.mp hb
  have hxy:x=y:=by
   have h1:x∈y::b:=p.mem_iff.mp ag
   have h2:y∈x::a:=p.mem_iff.mpr ag
   rcases aq.mp h1 with e | e
   ·exact e
   ·rcases aq.mp h2 with e' | e'
    ·exact e'.symm
    ·exact(lexB_no (ha1 y e') (hb1 x e)).elim
  subst hxy
  rw[z4J ((List.perm_cons x).mp p) ha2 hb2]
theorem y2P{a l:List (Int×Int)}(nd:l.Nodup)(p:a.Perm l)(h:a.Pairwise (fun a b=>z5j a b=true)):a=srtP l:=z4J (p.trans (z4Y l).symm) h (z4p nd)
theorem pick_is{ks:List (Int×Int)}{π:Array Nat}(nd:ks.Nodup)(hp:π.Perm (aI (ar ks.length)))(hs:Srt (KLt ks) π ks.length):(π.toList.map fun i=>ks.getD i (0,0))=srtP ks:=by
 have hl:π.toList.Perm (ar ks.length):=by simpa using bK.mp hp
 refine y2P nd ?_ ?_
 ·refine(hl.map _).trans ?_
  have:(ar ks.length).map (fun i=>ks.getD i (0,0))=ks:=by
   apply cv
   ·simp
   ·intro i h1 h2
    rw[bL,List.getElem_range,ao,ae h2]
    rfl
  rw[this]
 ·rw[bH,ce]
  intro i j hi hj hij
  have hz:π.size=ks.length:=by simpa using hp.size_eq
  have:=hs i j hij (by simpa[hz] using hj)
  have g:∀k (hk:k<π.toList.length),gA π k=π.toList[k]:=fun k hk=>by
   unfold gA
   rw[aH,b9 (by simpa using hk)]
   simp
  rw[g i hi,g j hj]at this
  exact this
def z7n:List D->Option (List D)
 |[.lst ds]=>(y6c ds).bind fun ks=>if ks.Nodup∧0<ks.length∧ks.length<64 then some ((srtP ks).map prI)else none
 |_=>none
section
variable{K:aa}{H:Hp}{B:Addr->Prop}
theorem z9y:∀{ks:List (Int×Int)} {vs:List V},Reps K H B (ks.map prI) vs->PrV K H vs ks
 |[],vs,h=>by
  unfold Reps at h
  subst h
  exact .nil
 |k::ks,vs,h=>by
  unfold Reps at h
  obtain⟨v,r,rfl,h1,h2⟩:=h
  unfold prI Rep at h1
  obtain⟨a,xs,rfl,hs,hr⟩:=h1
  unfold Reps at hr
  obtain⟨x0,r0,rfl,e0,hr⟩:=hr
  unfold Reps at hr
  obtain⟨x1,r1,rfl,e1,hr⟩:=hr
  unfold Reps at hr
  subst hr
  unfold Rep at e0 e1
  subst e0
  subst e1
  exact .cons hs (z9y h2)
theorem z7a:∀{ks:List (Int×Int)} {vs:List V} (i:Nat),Reps K H B (ks.map prI) vs->i<ks.length->Rep K H B (prI (ks.getD i (0,0))) (vs.getD i .non)
 |[],_,_,_,hi=>absurd hi (bZ _)
 |k::ks,vs,i,h,hi=>by
  unfold Reps at h
  obtain⟨v,r,rfl,h1,h2⟩:=h
  cases i with
  |zero=>exact h1
  |succ i=>exact z7a i h2 (cB hi)
theorem z6S{ks:List (Int×Int)}{vs:List V}(r:Reps K H B (ks.map prI) vs):∀{l:List Nat},(∀i∈l,i<ks.length)->Reps K H B ((l.map fun i=>ks.getD i (0,0)).map prI) (l.map fun i=>vs.getD i .non)
 |[],_=>.nil
 |i::l,h=>.cons (z7a i r (h i ag)) (z6S r fun j hj=>h j (ac _ hj))
end
theorem y5o{K:aa}:OpL K (fun xs H Q=>∃(p:Addr) (vs:List V) (ks:List (Int×Int)),xs=[.ref p]∧SqL K H p vs∧PrV K H vs ks∧ks.Nodup∧0<vs.length∧vs.length<64 ∧
  ∀l (π:Array Nat),H l=none->π.Perm (aI (ar vs.length))->Srt (KLt ks) π vs.length->Q (.ref l) (upd H l (.lst (π.toList.map fun i=>vs.getD i .non)))) z7n:=by
 intro H B ds es vs Q hB hr q k
 unfold z7n at q
 split at q
 ·rename_i ds'
  cases e:y6c ds' with
  |none=>rw[e]at q;cases q
  |some ks=>
   rw[e,af]at q
   split at q
   case isFalse=>cases q
   case isTrue hk=>
   cases q
   obtain⟨v,rfl,r⟩:=z4c hr
   unfold Rep at r
   obtain⟨a,xs,rfl,_,h,rs⟩:=r
   rw[z8L e]at rs
   have hl:xs.length=ks.length:=by have:=rs.length;simpa using this.symm
   refine⟨a,xs,ks,rfl,SqL.of h,z9y rs,hk.1,by omega,by omega,fun l π hn hp hs=>?_⟩
   rw[hl]at hp hs
   have ep:=pick_is hk.1 hp hs
   have hpl:π.toList.Perm (ar ks.length):=by simpa using bK.mp hp
   have rp:=z6S (rs.mono (z0t (o:=.lst (π.toList.map fun i=>xs.getD i .non)) hn)) (l:=π.toList) fun i hi=>aD.mp (hpl.mem_iff.mp hi)
   rw[ep]at rp
   exact k l _ _ (z0t hn) hn z0s rp
 ·cases q
section
variable{X:Cx}{e:Expr}{f:DE}{p pos:Pos}
theorem y0e(hg:Gl X "sorted")(hm:X.mg "sorted" = none)(h:PD X e f)(he:starEach [e] X.env=[(false,eval e X.env)]:=by rfl):PF X (.Call (.Name "sorted" p) [e] [] pos) (z1i z7n [f]):=
 (z6e z7s hg hm boot_sorted (z0a h z0d he) (by decide) (by decide) he rfl).imp (callL y5o)
end
end L2

/-! ### E110: x[k].append(a new thing) of an owned x -/
namespace L2
open PySem PySem.Spec PyProof.Rows
section
variable{K:aa}{H:Hp}
theorem Trees.app1{es:List D}:∀{ds:List D} {xs:List V} {A:List Addr} (k:Nat),Trees K H ds xs A->A.Nodup->ds[k]? = some (.lst es) →
  ∃b ys B,xs[k]? = some (.ref b)∧H b=some (.lst ys)∧b∈A∧Trees K H es ys B∧∀d y C,Tree K H d y C->(A++C).Nodup->∃A',Trees K (upd H b (.lst (ys++[y]))) (ds.set k (.lst (es++[d]))) xs A'∧A'.Nodup∧∀c∈A',c∈A∨c∈C
 |[],_,_,_,_,_,e=>by simp at e
 |d::ds,_,_,0,h,nd,e=>by
  simp at e
  subst e
  unfold Trees at h
  obtain⟨x,r,A1,A2,rfl,h1,h2,rfl⟩:=h
  unfold Tree at h1
  obtain⟨b,ys,B,rfl,hb,tb,rfl⟩:=h1
  have mH:Mut (H b):=by rw[hb];exact trivial
  have kt:∀o,KeepI K H (upd H b o):=fun o=>(Keep.upd (K:=K) (B:=fun x=>x=b) (o:=o) rfl mH).i
  refine⟨b,ys,B,rfl,hb,by simp,tb,fun d' y C t' nd'=>?_⟩
  have nd1:(b::(B++(A2++C))).Nodup:=by simpa[aQ] using nd'
  have nb:=(am.mp nd1).1
  have ne:∀c,c∈B++(A2++C)->c≠b:=fun c hc z=>nb (by rw[←z];exact hc)
  refine⟨(b::(B++C))++A2,?_,?_,fun c hc=>?_⟩
  ·rw[bA]
   unfold Trees
   refine⟨.ref b,r,b::(B++C),A2,rfl,?_,Trees.keep (kt _) ds h2 fun c hc o q=>?_,rfl⟩
   ·unfold Tree
    refine⟨b,ys++[y],B++C,rfl,z0s,Trees.keep (kt _) (es++[d']) (Trees.snoc tb t') (fun c hc o q=>?_),rfl⟩
    rw[z0n (ne c (by rcases aw.mp hc with z | z <;> simp[z]))];exact q
   ·rw[z0n (ne c (by simp[hc]))];exact q
  ·have pm:((b::(B++C))++A2).Perm (b::(B++(A2++C))):=by
    rw[List.cons_append,aQ]
    exact(List.perm_append_comm.append_left B).cons b
   exact pm.nodup_iff.mpr nd1
  ·have hc:c=b∨(c∈B∨c∈C)∨c∈A2:=by simpa[or_assoc] using hc
   rcases hc with z | (z | z) | z
   ·left;simp[z]
   ·left;simp[z]
   ·right;exact z
   ·left;simp[z]
 |d::ds,_,_,k+1,h,nd,e=>by
  unfold Trees at h
  obtain⟨x,r,A1,A2,rfl,h1,h2,rfl⟩:=h
  have ndA:=ay.mp nd
  obtain⟨b,ys,B,e1,hb,hbA,tb,up⟩:=Trees.app1 k h2 ndA.2.1 (by simpa using e)
  refine⟨b,ys,B,by simpa using e1,hb,au _ hbA,tb,fun d' y C t' nd'=>?_⟩
  have nd3:(A1++(A2++C)).Nodup:=by simpa[aQ] using nd'
  obtain⟨n1,n2,n3⟩:=ay.mp nd3
  obtain⟨A',t2,m2,sub⟩:=up d' y C t' n2
  have mH:Mut (H b):=by rw[hb];exact trivial
  have kt:KeepI K H (upd H b (.lst (ys++[y]))):=(Keep.upd (K:=K) (B:=fun x=>x=b) rfl mH).i
  refine⟨A1++A',?_,ay.mpr ⟨n1,m2,fun a ha c hc z=>n3 a ha c (by rcases sub c hc with w | w <;> simp[w]) z⟩,fun c hc=>?_⟩
  ·rw[bB]
   unfold Trees
   refine⟨x,r,A1,A',rfl,Tree.keep kt d h1 fun c hc o q=>?_,t2,rfl⟩
   have ne:c≠b:=fun z=>ndA.2.2 c hc b hbA z
   rw[z0n ne];exact q
  ·rcases aw.mp hc with z | z
   ·left;simp[z]
   ·rcases sub c z with w | w
    ·left;simp[w]
    ·right;exact w
end
def y2t(i:Nat)(fk f:DE):SS->Option Out:=fun δ=>(fk (z0i δ)).bind fun dk=>match dk with
 |.int k=>(f (z0i δ)).bind fun d=>(match δ[i]? with
  |some (some (.ow (.lst ds)))=>(ixN ds.length k).bind fun j=>(match ds[j]? with
   |some (.lst es)=>if es.length<sizeLine then some (.nx ((z0r i δ).set i (some (.ow (.lst (ds.set j (.lst (es++[d]))))))) )else none
   |_=>none)
  |_=>none)
 |_=>none
section
variable{X:Cx}{H0:Hp}{B0:Addr->Prop}{fr:Bool}{RX:XR}{e ke:Expr}{pos ap cp:Pos}{x:Str}{px p2:Pos}{f fk:DE}
theorem s_app1N{i:Nat}(hx:PE X (.Name x px) (z5m i))(hk:PD X ke fk)(he:PN X e f)(hpi:z4q ke:=by intro _ _;rfl)
  (hbase:dS (.Subscript (.Name x px) ke p2) "append" X.env (eval (.Subscript (.Name x px) ke p2) X.env)=eval (.Subscript (.Name x px) ke p2) X.env:=by rfl)
  (hfew:((dY cp (starEach [e] X.env)).all (fun x=>!x.1)&&(backToKw cp (keywordEach [] X.env)).all (fun x=>x.1.isSome)&&decide ([e].length+([]:List d3).length+(if([]:List d3).isEmpty then 0 else 1)<30))=true:=by rfl)
  (hline:(ap.endLine==cp.line)=true:=by rfl) (hs:starEach [e] X.env=(false,eval e X.env)::starEach [] X.env:=by rfl)
  (hsw:swapsWith (.Call (.Attribute (.Subscript (.Name x px) ke p2) "append" ap) [e] [] cp) none pos.line X.env=pure false:=by rfl):
  PS X (.Expr (.Call (.Attribute (.Subscript (.Name x px) ke p2) "append" ap) [e] [] cp) pos) (tS X.K H0 B0 fr RX (y2t i fk f)):=
 PS.imp (z2P (y3L PySem.F.plainAttrs_list PySem.F.slot_list_append PySem.F.type_list_append z4X (y4W ix_list hx hk hpi) (z1v he pa_nil hs) hbase hfew hline hs rfl) hsw) fun D σ H ⟨δ,R,o,rs,q,kk⟩=>by
  unfold y2t at q
  cases ek:fk (z0i δ)with
  |none=>rw[ek]at q;cases q
  |some dk=>
  rw[ek,af]at q
  cases dk
  case int k=>
   cases e1:f (z0i δ)with
   |none=>
    have q:((f (z0i δ)).bind _)=some o:=q
    rw[e1]at q;cases q
   |some d=>
    have q:((f (z0i δ)).bind _)=some o:=q
    rw[e1,af]at q
    split at q
    case h_2=>cases q
    case h_1 ds ei=>
    cases ej:ixN ds.length k with
    |none=>rw[ej]at q;cases q
    |some j=>
     rw[ej,af]at q
     split at q
     case h_2=>cases q
     case h_1 es ed=>
     split at q
     case isFalse=>cases q
     case isTrue hz=>
     cases q
     obtain⟨a,xs,A,ev,ha,ts,eR,nd⟩:=rs.top ei
     have ndA:=(am.mp nd).2
     obtain⟨b,ys,B,hxb,hb,hbA,tb,_⟩:=Trees.app1 j ts ndA ed
     refine⟨.ref a,ev,noB,z0i δ,.int k,.no,rs.all,ek,fun v1 H1 s1 r1=>?_⟩
     cases (show v1=V.int k from r1)
     have hat:atI xs k=some (.ref b):=by
      unfold atI
      rw[←ts.length,ej]
      exact hxb
     refine⟨a,xs,k,.ref b,rfl,rfl,SqL.of (s1 _ _ ha),hat,.inl ⟨rfl,ys,SqL.of (s1 _ _ hb)⟩,z0i δ,d,rs.all.mono s1,e1,fun y H2 C s2 t2 nC fC=>?_⟩
     have s12:=s1.trans s2
     refine⟨b,ys,y,rfl,rfl,s12 _ _ hb,by rw[←tb.length];exact hz,?_⟩
     obtain⟨b',ys',B',hxb',hb',_,_,up⟩:=Trees.app1 j (ts.mono s12) ndA ed
     rw[hxb]at hxb';cases hxb'
     rw[s12 _ _ hb]at hb';cases hb'
     have hAC:(A++C).Nodup:=ay.mpr ⟨ndA,nC,fun p hp c hc z=>by
      subst z
      obtain⟨u,q,_⟩:=Trees.held ds ts p hp
      have:=s1.free (fC p hc)
      rw[q]at this;cases this⟩
     obtain⟨A',t',n',sub⟩:=up d y C t2 hAC
     have hba:b∈R i:=by rw[eR];exact ac _ hbA
     have nba:a≠b:=fun z=>(am.mp nd).1 (z ▸ hbA)
     have hfC:∀c∈C,H c=none:=fun c hc=>s1.free (fC c hc)
     have naA:a∉A':=fun z=>by
      rcases sub a z with w | w
      ·exact(am.mp nd).1 w
      ·rw[hfC a w]at ha;cases ha
     have P:=rs.rewrite (A':=a::A') s12 ei ev hba (d':=.lst (ds.set j (.lst (es++[d])))) (o:=.lst (ys++[y])) (by
      unfold Tree
      exact⟨a,xs,A',rfl,by rw[z0n nba];exact s12 _ _ ha,t',rfl⟩) (am.mpr ⟨naA,n'⟩) fun c hc=>by
       rw[eR]
       rcases aq.mp hc with z | z
       ·rw[z];exact .inl ag
       ·rcases sub c z with w | w
        ·exact .inl (ac _ w)
        ·exact .inr (hfC c w)
     exact kk σ _ _ P.1 P.2
  all_goals cases q
end
end L2

/-! ### M1: reckoning with the trees' functions -/
namespace L2
open PySem

/-! statements -/
theorem y2e{np nl:Nat}{g:SS->Option Out}{ds:List D}{d:D}(hl:ds.length=np)(e:g (ds.map (fun d=>some (.sh d))++ad nl none)=some (.rt d)):z3f np nl g ds=some d:=by
 unfold z3f
 rw[if_pos hl,e]


/-! comprehensions -/
theorem z2g{n:Nat}(h:n≤1000000):n≤sizeLine:=by rw[PySem.sizeLine_eq];omega

/-! values -/
def bD(b:Bool):D:=.bl b
def z0S(r:List Bool):D:=.lst (r.map bD)
def z0u(T:List (List Bool)):D:=.lst (T.map z0S)
theorem y2N{ds:List D}{k:Nat}{d:D}(h:ds[k]? = some d):ixD (.lst ds) (.int (k:Int))=some d:=z4Z h
theorem z4s:∀bs:List Bool,z2Z (bs.map bD)=some bs
 |[]=>rfl
 |b::bs=>by
  show(z2Z (bs.map bD)).map (b :: ·)=_
  rw[z4s bs]
  rfl
theorem z1b:∀r:List Bool,z0L (r.map bD)=true
 |[]=>rfl
 |b::r=>by
  show(true&&z0L (r.map bD))=true
  rw[z1b r]
  rfl
end L2

/-! ### M2: tables of z2Z -/
namespace L2
open PySem
theorem eq_self{d:D}(h:okP d=true):eqD d d=some (.bl true):=by
 unfold eqD
 rw[h]
 show(if(true&&true)=true then some (D.bl (PyData.eqv (toP d) (toP d)))else none)=_
 rw[if_pos (show(true&&true)=true from rfl),SeqAt.eqv_refl _ (z0B h).1]
theorem row_ix{r:List Bool}{k:Nat}(h:k<r.length):ixD (z0S r) (.int (k:Int))=some (.bl r[k]):=y2N (by rw[aL,ae h];rfl)
theorem tab_ix{T:List (List Bool)}{k:Nat}(h:k<T.length):ixD (z0u T) (.int (k:Int))=some (z0S T[k]):=y2N (by rw[aL,ae h];rfl)
theorem z7C{n k:Nat}(h:k<n):ixN n (k:Int)=some k:=by
 unfold ixN
 rw[if_pos (by omega),if_pos (by omega)]
 simp
/-- a square table -/
def Sq(n:Nat)(T:List (List Bool)):Prop:=T.length=n∧∀r∈T,r.length=n
theorem Sq.row{n:Nat}{T:List (List Bool)}(h:Sq n T){k:Nat}(hk:k<T.length):T[k].length=n:=h.2 _ (aU hk)
theorem Sq.set{n:Nat}{T:List (List Bool)}(h:Sq n T){a b:Nat}{v:Bool}(ha:a<T.length):Sq n (T.set a (T[a].set b v)):=by
 refine⟨by simp[h.1],fun r hr=>?_⟩
 rcases List.mem_or_eq_of_mem_set hr with z | z
 ·exact h.2 r z
 ·subst z
  rw[bF]
  exact h.row ha
theorem z5B{δ:DS}{f:DE}{r:List Bool}(e:f δ=some (z0S r)):z0w (z1i z2n [f]) δ=some (z0S r):=by
 unfold z0w z1i z0k z0k
 rw[e]
 show(if z0L (r.map bD)=true then some (D.lst (r.map bD))else none)=_
 rw[if_pos (z1b r)]
 rfl
end L2

/-! ### M3: what comes of a mirror,said by what holds behind it -/
namespace L2
open PySem
def hol{α:Type}(x:Option α)(Q:α->Prop):Prop:=∃a,x=some a∧Q a
section
variable{α:Type}{Q:α->Prop}
theorem z0g{a:α}:hol (some a) Q=Q a:=propext ⟨fun⟨_,e,q⟩=>by cases e;exact q,fun q=>⟨a,rfl,q⟩⟩
theorem hol.imp{x:Option α}{Q':α->Prop}(h:hol x Q)(k:∀a,Q a->Q' a):hol x Q':=let⟨a,e,q⟩:=h;⟨a,e,k a q⟩
theorem hol_is{x:Option α}{a:α}:hol x (fun b=>b=a)↔x=some a:=⟨fun⟨_,e,q⟩=>q ▸ e,fun e=>⟨a,e,rfl⟩⟩
end
def asB:D->Option Bool
 |.bl b=>some b
 |_=>none
def asI:D->Option Int
 |.int i=>some i
 |_=>none
def asL:D->Option (List D)
 |.lst ds=>some ds
 |_=>none
section
variable{Q:D->Prop}{QO:Out->Prop}{δ:DS}{s:SS}{h:DE}
theorem ho_var0{x:Option D}{r:DS}:z0c 0 (x::r)=x:=by cases x <;> rfl
/-! statements -/
def owA(i:Nat)(s:SS):Option D:=match s[i]? with
 |some (some (.ow d))=>some d
 |_=>none
/-! what a def comes to -/
theorem z0U{np nl:Nat}{b:SS->Option Out}{ds:List D}{d:D}(hl:ds.length=np)(h:hol (b (ds.map (fun d=>some (.sh d))++ad nl none)) fun o=>o = .rt d):z3f np nl b ds=some d:=y2e hl (hol_is.mp h)
theorem y2x{np nl:Nat}{b:SS->Option Out}{ds:List D}(hl:ds.length=np)(h:hol (b (ds.map (fun d=>some (.sh d))++ad nl none)) fun o=>∃d,o = .rt d∧Q d):hol (z3f np nl b ds) Q:=by
 obtain⟨o,e,d,rfl,q⟩:=h
 exact⟨d,y2e hl e,q⟩
/-! loops -/
theorem y1p{i:Nat}{b:SS->Option Out}{ds:List D}{s:SS}(I:Nat->SS->Prop)(h0:I 0 s)(hs:∀n (h:n<ds.length) δ,I n δ->hol (b (δ.set i (some (.sh ds[n])))) fun o=>match o with | .nx δ'=>I (n+1) δ' | .ct δ'=>I (n+1) δ' | .bk δ'=>QO (.nx δ') | .rt d=>QO (.rt d) | .rb d δ'=>QO (.rb d δ') | .ex c δ'=>QO (.ex c δ'))(he:∀δ,I ds.length δ->QO (.nx δ)):hol (z3n i b ds s) QO:=by
 induction ds generalizing s I with
 |nil=>exact⟨_,rfl,he _ h0⟩
 |cons x r ih=>
  obtain⟨o,e,q⟩:=hs 0 (by simp) s h0
  have e:b (s.set i (some (.sh x)))=some o:=e
  have step:∀s1,I 1 s1->hol (z3n i b r s1) QO:=fun s1 h1=>ih (fun n=>I (n+1)) h1 (fun n hn δ hI=>by
   have:=hs (n+1) (by simpa using hn) δ hI
   simpa using this) fun δ hI=>he δ (by simpa using hI)
  unfold z3n
  rw[e]
  cases o with
  |nx s1=>exact step s1 q
  |ct s1=>exact step s1 q
  |bk s1=>exact⟨_,rfl,q⟩
  |rt d=>exact⟨_,rfl,q⟩
  |rb d s1=>exact⟨_,rfl,q⟩
  |ex c s1=>exact⟨_,rfl,q⟩
theorem z2q{i:Nat}{b:SS->Option Out}{lo:Int}{m:Nat}{s:SS}(I:Nat->SS->Prop)(h0:I 0 s)(hs:∀n,n<m->∀δ,I n δ->hol (b (δ.set i (some (.sh (.int (lo+(n:Int))))))) fun o=>match o with | .nx δ'=>I (n+1) δ' | .ct δ'=>I (n+1) δ' | .bk δ'=>QO (.nx δ') | .rt d=>QO (.rt d) | .rb d δ'=>QO (.rb d δ') | .ex c δ'=>QO (.ex c δ'))(he:∀δ,I m δ->QO (.nx δ)):hol (z3n i b (z4h lo m) s) QO:=by
 refine y1p I h0 (fun n hn δ hI=>?_) fun δ hI=>he δ (by simpa[z4h] using hI)
 have hn':n<m:=by simpa[z4h] using hn
 have:=hs n hn' δ hI
 simpa[z4h] using this
theorem z4N{α:Type}{enc:α->D}{i:Nat}{b:SS->Option Out}{xs:List α}{s:SS}(I:List α->SS->Prop)(h0:I [] s)(hs:∀pre x post,xs=pre++x::post->∀δ,I pre δ->hol (b (δ.set i (some (.sh (enc x))))) fun o=>match o with | .nx δ'=>I (pre++[x]) δ' | .ct δ'=>I (pre++[x]) δ' | .bk δ'=>QO (.nx δ') | .rt d=>QO (.rt d) | .rb d δ'=>QO (.rb d δ') | .ex c δ'=>QO (.ex c δ'))(he:∀δ,I xs δ->QO (.nx δ)):hol (z3n i b (xs.map enc) s) QO:=by
 refine y1p (fun n δ=>I (xs.take n) δ) (by simpa using h0) (fun n hn δ hI=>?_) fun δ hI=>he δ (by simpa using hI)
 have hn':n<xs.length:=by simpa using hn
 have e:xs=xs.take n++xs[n]::xs.drop (n+1):=by
  rw[←ba hn',cC]
 have:=hs (xs.take n) xs[n] _ e δ hI
 rw[←List.take_succ_eq_append_getElem hn']at this
 rw[bL]
 exact this
end
end L2

/-! ### M4: mirrors reckoned out,term by term -/
namespace L2
open PySem
def o2(F:D->D->Option D):Option D->Option D->Option D
 |some x,some y=>F x y
 |_,_=>none
def andO:Option D->Option D->Option D
 |some (.bl true),y=>y
 |some (.bl false),_=>some (.bl false)
 |_,_=>none
def orO:Option D->Option D->Option D
 |some (.bl true),_=>some (.bl true)
 |some (.bl false),y=>y
 |_,_=>none
def andT:Option Bool->Option Bool->Option Bool
 |some true,y=>y
 |some false,_=>some false
 |_,_=>none
def orT:Option Bool->Option Bool->Option Bool
 |some true,_=>some true
 |some false,y=>y
 |_,_=>none
def iteO{α:Type}:Option Bool->Option α->Option α->Option α
 |some true,x,_=>x
 |some false,_,y=>y
 |_,_,_=>none
def z9U:Option D->Option (List D)->Option (List D)
 |some x,some xs=>some (x::xs)
 |_,_=>none
def z7y:Option D->Option D
 |some d=>if d.imm=true then some d else none
 |none=>none
def z4O:Option (List D)->Option (List D)
 |some ds=>if z0L ds=true then some ds else none
 |none=>none
def z6E(x:Option Out)(b:SS->Option Out):Option Out:=match x with
 |some (.nx s)=>b s
 |o=>o
def rng1:Option D->Option (List D)
 |some (.int j)=>if -(2 ^ 62)≤j∧j<2 ^ 62 then some (z4h 0 j.toNat)else none
 |_=>none
def rng2:Option D->Option D->Option (List D)
 |some (.int i),some (.int j)=>if -(2 ^ 62)≤i∧i<2 ^ 62∧-(2 ^ 62)≤j∧j<2 ^ 62 then some (z4h i (j - i).toNat)else none
 |_,_=>none
def cut3(x:Option D)(lo hi:Option (Option Int)):Option (List D):=match x,lo,hi with
 |some (.lst ds),some l,some h=>some (z7w ds l h)
 |some (.scr ns),some l,some h=>some (z7w (ns.map .int) l h)
 |_,_,_=>none
def partO:Option D->Option (Option Int)
 |some (.int i)=>some (some i)
 |_=>none
def setO(mk:D->SD)(i:Nat)(x:Option D)(s:SS):Option Out:=match x with
 |some d=>some (.nx (s.set i (some (mk d))))
 |none=>none
def rtO:Option D->Option Out
 |some d=>some (.rt d)
 |none=>none
def forX(i:Nat)(ds:Option (List D))(b:SS->Option Out)(s:SS):Option Out:=match ds with
 |some ds=>z3n i b ds s
 |none=>none
def z2C(i:Nat)(x:Option D)(s:SS):Option Out:=match x with
 |some d=>some (.nx ((z0r i s).set i (some (.ow d))))
 |none=>none
def z2l(fc:DS->Option Bool)(fe:DE)(δ:DS):D->Option (Option D):=fun x=>(fc (δ++[some x])).bind fun k=>if k=true then(fe (δ++[some x])).map some else some none
def z2A(xs:Option (List D))(h:D->Option (Option D)):Option (List D):=match xs with
 |some xs=>if xs.length≤sizeLine then z1V h xs else none
 |none=>none
section
variable{f g h:DE}{δ:DS}{s:SS}{F:D->D->Option D}{c e:DS->Option Bool}{a b:SS->Option Out}{i:Nat}
theorem y3O{x:Option D}{r:DS}:z0c 0 (x::r)=x:=ho_var0
theorem y4i{x:Option D}{r:DS}:z0c (i+1) (x::r)=z0c i r:=(rfl)
theorem ev_C{d:D}:dC d δ=some d:=(rfl)
theorem ev_d2:d2 F f g δ=o2 F (f δ) (g δ):=by
 unfold d2 o2
 cases f δ <;> cases g δ <;> rfl
theorem ev_d1{G:D->Option D}:d1 G f δ=(f δ).bind G:=(rfl)
theorem y2f:z1k f δ=(f δ).bind asB:=by
 unfold z1k
 cases f δ with
 |none=>rfl
 |some d=>cases d <;> rfl
theorem z8y:z1y f δ=(f δ).bind z4W:=(rfl)
theorem y1q:y3o c e δ=andT (c δ) (e δ):=by
 unfold y3o
 rcases c δ with _ | _ | _ <;> rfl
theorem y5W:z9K c e δ=orT (c δ) (e δ):=by
 unfold z9K
 rcases c δ with _ | _ | _ <;> rfl
theorem y1d:z2G c δ=(c δ).map (!·):=(rfl)
theorem y7K:dAnd f g δ=andO (f δ) (g δ):=by
 unfold dAnd andO
 rcases f δ with _ | (_ | (_ | _) | _ | _ | _ | _ | _ | _) <;> rfl
theorem ev_or:dOr f g δ=orO (f δ) (g δ):=by
 unfold dOr orO
 rcases f δ with _ | (_ | (_ | _) | _ | _ | _ | _ | _ | _) <;> rfl
theorem ev_if:dIf c f g δ=iteO (c δ) (f δ) (g δ):=by
 unfold dIf
 rcases c δ with _ | _ | _ <;> rfl
theorem z8C:z0k [] δ=some []:=(rfl)
theorem z9C{r:List DE}:z0k (f::r) δ=z9U (f δ) (z0k r δ):=by
 show((f δ).bind fun x=>(z0k r δ).bind fun xs=>some (x::xs))=_
 cases f δ <;> cases z0k r δ <;> rfl
theorem y2C{M:List D->Option D}{fl:List DE}:z0p M fl δ=(z0k fl δ).bind M:=(rfl)
theorem z8w{M:List D->Option (List D)}{fl:List DE}:z1i M fl δ=(z0k fl δ).bind M:=(rfl)
theorem y6x{f:DS->Option (List D)}:mkL f δ=(f δ).map .lst:=(rfl)
theorem y6u{f:DS->Option (List D)}:mkT f δ=(f δ).map .tup:=(rfl)
theorem z6M{f:DS->Option (List D)}:z0w f δ=(z4O (f δ)).map .lst:=by
 unfold z0w z4O
 cases f δ with
 |none=>rfl
 |some ds=>
  show(if z0L ds=true then _ else _)=Option.map _ (if z0L ds=true then _ else _)
  split <;> rfl
theorem z8V:mkImm f δ=z7y (f δ):=by
 unfold mkImm z7y
 cases f δ <;> rfl
theorem ev_is{T:String}:dIs T f δ=(f δ).map fun d=>.bl (isF T d):=(rfl)
theorem y7z:z3Y f δ=(f δ).bind z5b:=(rfl)
theorem y1e:z4d f δ=rng1 (f δ):=(rfl)
theorem y2U:y4N f g δ=rng2 (f δ) (g δ):=(rfl)
theorem y4e{fi:DS->Option (List D)}:z0T fi c f δ=z2A (fi δ) (z2l c f δ):=by
 unfold z0T z2A
 cases fi δ <;> rfl
theorem y3x:y0w f δ=partO (f δ):=(rfl)
theorem z6W:z6v δ=some none:=(rfl)
theorem y6L{fl fh:DS->Option (Option Int)}:dCut f fl fh δ=cut3 (f δ) (fl δ) (fh δ):=by
 unfold dCut cut3
 rcases f δ with _ | (_ | _ | _ | _ | _ | _ | _ | _) <;> first | rfl | (cases fl δ <;> cases fh δ <;> rfl)
theorem y1i:z0M a b s=z6E (a s) b:=by
 unfold z0M z6E
 rcases a s with _ | (_ | _ | _ | _) <;> rfl
theorem y4s:z1M s=some (.nx s):=(rfl)
theorem ev_bk:bkO s=some (.bk s):=(rfl)
theorem ev_ct:ctO s=some (.ct s):=(rfl)
theorem y3B:asgS i f s=setO .sh i (f (shV s)) s:=by
 unfold asgS setO
 cases f (shV s) <;> rfl
theorem y4w:y0i i f s=setO .sh i (z7y (f (z0i s))) s:=by
 unfold y0i setO z7y
 cases f (z0i s)with
 |none=>rfl
 |some d=>
  show(if d.imm=true then _ else _)=(match (if d.imm=true then some d else none)with | some d=>some (Out.nx (s.set i (some (SD.sh d)))) | none=>none)
  split <;> rfl
theorem y0K:z4f i f s=setO .ow i (f (z0i s)) s:=by
 unfold z4f setO
 cases f (z0i s) <;> rfl
theorem y2Z:z2X f s=rtO (z7y (f (z0i s))):=by
 unfold z2X rtO z7y
 cases f (z0i s)with
 |none=>rfl
 |some d=>
  show(if d.imm=true then _ else _)=(match (if d.imm=true then some d else none)with | some d=>some (Out.rt d) | none=>none)
  split <;> rfl
theorem y2k:y4g f s=rtO (f (z0i s)):=by
 unfold y4g rtO
 cases f (z0i s) <;> rfl
theorem y1Z:retS f s=rtO (f (shV s)):=by
 unfold retS rtO
 cases f (shV s) <;> rfl
theorem y1x:y7y i s=rtO (owA i s):=by
 unfold y7y rtO owA
 rcases s[i]? with _ | _ | ⟨x | x | ⟨r,x⟩⟩ <;> rfl
theorem y6p:ifO c a b s=iteO (c (z0i s)) (a s) (b s):=by
 unfold ifO
 rcases c (z0i s)with _ | _ | _ <;> rfl
theorem y1j{fi:DS->Option (List D)}:z7z i fi b s=forX i (fi (shV s)) b s:=by
 unfold z7z forX
 cases fi (shV s) <;> rfl
theorem y7s:frzO i b s=b (y4A i s):=(rfl)
/-! how they go on when the parts are there -/
theorem eo_2{x y:D}:o2 F (some x) (some y)=F x y:=(rfl)
theorem y6d{x y:Bool}:andO (some (.bl x)) (some (.bl y))=some (.bl (x&&y)):=by cases x <;> rfl
theorem y3u{y:Option D}:andO (some (.bl true)) y=y:=(rfl)
theorem y0Z{y:Option D}:andO (some (.bl false)) y=some (.bl false):=(rfl)
theorem eo_or{x y:Bool}:orO (some (.bl x)) (some (.bl y))=some (.bl (x||y)):=by cases x <;> rfl
theorem y5S{y:Option D}:orO (some (.bl true)) y=some (.bl true):=(rfl)
theorem y6O{y:Option D}:orO (some (.bl false)) y=y:=(rfl)
theorem y0P{x y:Bool}:andT (some x) (some y)=some (x&&y):=by cases x <;> rfl
theorem z8N{y:Option Bool}:andT (some true) y=y:=(rfl)
theorem z8h{y:Option Bool}:andT (some false) y=some false:=(rfl)
theorem y6F{x y:Bool}:orT (some x) (some y)=some (x||y):=by cases x <;> rfl
theorem y1k{y:Option Bool}:orT (some true) y=some true:=(rfl)
theorem y0m{y:Option Bool}:orT (some false) y=y:=(rfl)
theorem y0U{α:Type}{x y:Option α}:iteO (some true) x y=x:=(rfl)
theorem y3k{α:Type}{x y:Option α}:iteO (some false) x y=y:=(rfl)
theorem y1Y{x:D}{xs:List D}:z9U (some x) (some xs)=some (x::xs):=(rfl)
theorem eo_nx:z6E (some (.nx s)) b=b s:=(rfl)
theorem eo_rt{d:D}:z6E (some (.rt d)) b=some (.rt d):=(rfl)
theorem eo_bk:z6E (some (.bk s)) b=some (.bk s):=(rfl)
theorem eo_ct:z6E (some (.ct s)) b=some (.ct s):=(rfl)
theorem y6t{mk:D->SD}{d:D}:setO mk i (some d) s=some (.nx (s.set i (some (mk d)))):=(rfl)
theorem y7x{d:D}:rtO (some d)=some (.rt d):=(rfl)
theorem y6K{ds:List D}:forX i (some ds) b s=z3n i b ds s:=(rfl)
theorem y3r{n:Int}:z7y (some (.int n))=some (.int n):=(rfl)
theorem y3v{n:Bool}:z7y (some (.bl n))=some (.bl n):=(rfl)
theorem y4o:z7y (some .non)=some .non:=(rfl)
theorem y4f{x:Str}:z7y (some (.str x))=some (.str x):=(rfl)
theorem y2z{ns:List Int}:z7y (some (.scr ns))=some (.scr ns):=(rfl)
theorem z3H{ds:List D}(h:z0L ds=true):z4O (some ds)=some ds:=if_pos h
theorem y1W{n:Int}:partO (some (.int n))=some (some n):=(rfl)
theorem y1t{ds:List D}{l h:Option Int}:cut3 (some (.lst ds)) (some l) (some h)=some (z7w ds l h):=(rfl)
theorem y4j{ns:List Int}{l h:Option Int}:cut3 (some (.scr ns)) (some l) (some h)=some (z7w (ns.map .int) l h):=(rfl)
theorem eo_rng1{n:Int}(h:-(2 ^ 62)≤n∧n<2 ^ 62):rng1 (some (.int n))=some (z4h 0 n.toNat):=if_pos h
theorem eo_rng2{m n:Int}(h:-(2 ^ 62)≤m∧m<2 ^ 62∧-(2 ^ 62)≤n∧n<2 ^ 62):rng2 (some (.int m)) (some (.int n))=some (z4h m (n - m).toNat):=if_pos h
theorem z3A{xs:List D}{k:D->Option (Option D)}(h:xs.length≤1000000):z2A (some xs) k=z1V k xs:=if_pos (z2g h)
/-! values -/
section
variable{m n:Int}{p q:Bool}{ds:List D}{ns:List Int}
theorem y7v:y4z (.int m) (.int n)=some (.int (m+n)):=(rfl)
theorem y7B:subI (.int m) (.int n)=some (.int (m - n)):=(rfl)
theorem ea_mul(h:CMul m n):mulI (.int m) (.int n)=some (.int (m*n)):=if_pos h
theorem z6J(h:CDiv m n):y0h (.int m) (.int n)=some (.int (m / n)):=if_pos h
theorem z3X(h:0<n):z5M (.int m) (.int n)=some (.int (m % n)):=if_pos h
theorem ea_lt:ltI (.int m) (.int n)=some (.bl (decide (m<n))):=(rfl)
theorem ea_le:leI (.int m) (.int n)=some (.bl (decide (m≤n))):=(rfl)
theorem ea_gt:gtI (.int m) (.int n)=some (.bl (decide (n<m))):=(rfl)
theorem ea_ge:geI (.int m) (.int n)=some (.bl (decide (n≤m))):=(rfl)
theorem y7P:eqD (.int m) (.int n)=some (.bl (decide (m=n))):=(rfl)
theorem y7k:neD (.int m) (.int n)=some (.bl (!decide (m=n))):=(rfl)
theorem y6J:eqD (.bl p) (.bl q)=some (.bl (p==q)):=(rfl)
theorem y7F:neD (.bl p) (.bl q)=some (.bl (!(p==q))):=(rfl)
theorem y6T:uNeg (.int m)=some (.int (-m)):=(rfl)
theorem y7g:uNot (.bl p)=some (.bl (!p)):=(rfl)
theorem y3J:z4W (.bl p)=some p:=(rfl)
theorem y0R:z4W (.int m)=some (m != 0):=(rfl)
theorem y1D:z4W (.lst ds)=some (!ds.isEmpty):=(rfl)
theorem y2J:z4W .non=some false:=(rfl)
theorem y1K:z5b (.lst ds)=some ds:=(rfl)
theorem y3S:z5b (.tup ds)=some ds:=(rfl)
theorem y0I:z5b (.scr ns)=some (ns.map .int):=(rfl)
theorem y4d:z2j [.lst ds]=some (.int (ds.length:Int)):=(rfl)
theorem y3U:z2j [.tup ds]=some (.int (ds.length:Int)):=(rfl)
theorem y1S:z2j [.scr ns]=some (.int (ns.length:Int)):=(rfl)
theorem z8k:z2n [.lst ds]=some ds:=(rfl)
theorem z8T:z2n [.tup ds]=some ds:=(rfl)
theorem z8J:z2n [.scr ns]=some (ns.map .int):=(rfl)
theorem y2o:tupF [.lst ds]=some (.tup ds):=(rfl)
theorem y0y:tupF [.tup ds]=some (.tup ds):=(rfl)
theorem y7i:ixD (.lst ds) (.int m)=atI ds m:=(rfl)
theorem y6W:ixD (.tup ds) (.int m)=atI ds m:=(rfl)
theorem y6U:ixD (.scr ns) (.int m)=(atI ns m).map .int:=(rfl)
theorem y0J:isF "bool" (.bl p)=true:=(rfl)
theorem y3m:isF "bool" (.int m)=false:=(rfl)
theorem y2i:isF "int" (.int m)=true:=(rfl)
theorem y1b:isF "int" (.bl p)=true:=(rfl)
theorem y0Y:isF "list" (.lst ds)=true:=(rfl)
theorem y2s:isF "list" (.tup ds)=false:=(rfl)
theorem y0A:isF "tuple" (.tup ds)=true:=(rfl)
theorem y3d:isF "list" .non=false:=(rfl)
theorem y6I:asB (.bl p)=some p:=(rfl)
theorem y5U:asI (.int m)=some m:=(rfl)
theorem y6k:asL (.lst ds)=some ds:=(rfl)
end
theorem eb_bs{α β:Type}{a:α}{k:α->Option β}:(some a).bind k=k a:=(rfl)
theorem eb_bn{α β:Type}{k:α->Option β}:(none:Option α).bind k=none:=(rfl)
theorem eb_ms{α β:Type}{a:α}{k:α->β}:(some a).map k=some (k a):=(rfl)
theorem eb_mn{α β:Type}{k:α->β}:(none:Option α).map k=none:=(rfl)
theorem eb_s0{α:Type}{x y:α}{r:List α}:(x::r).set 0 y=y::r:=(rfl)
theorem eb_sS{α:Type}{n:Nat}{x y:α}{r:List α}:(x::r).set (n+1) y=x::r.set n y:=(rfl)
theorem eb_mc{α β:Type}{x:α}{r:List α}{k:α->β}:(x::r).map k=k x::r.map k:=(rfl)
theorem y0q{α β:Type}{k:α->β}:([]:List α).map k=[]:=(rfl)
theorem eb_rS{α:Type}{n:Nat}{x:α}:ad (n+1) x=x::ad n x:=(rfl)
theorem eb_r0{α:Type}{x:α}:ad 0 x=[]:=(rfl)
theorem eb_ca{α:Type}{x:α}{r t:List α}:(x::r)++t=x::(r++t):=(rfl)
theorem eb_na{α:Type}{t:List α}:[]++t=t:=(rfl)
/-! states -/
theorem y0B:z0i []=[]:=(rfl)
theorem y1w{x:Option SD}{r:SS}:z0i (x::r)=x.map SD.val::z0i r:=(rfl)
theorem y6g:shV []=[]:=(rfl)
theorem y5R{x:Option SD}{r:SS}:shV (x::r)=shO x::shV r:=(rfl)
theorem y0l{d:D}:Option.map SD.val (some (.sh d))=some d:=(rfl)
theorem y1n{d:D}:Option.map SD.val (some (.ow d))=some d:=(rfl)
theorem y3K:Option.map SD.val none=none:=(rfl)
theorem y6R{d:D}:shO (some (.sh d))=some d:=(rfl)
theorem z8t:z0r i []=[]:=(rfl)
theorem z8O{x:Option SD}{r:SS}:z0r i (x::r)=z7V i x::z0r i r:=(rfl)
theorem z7v{d:D}:z7V i (some (.sh d))=some (.sh d):=(rfl)
theorem z6V{d:D}:z7V i (some (.ow d))=some (.ow d):=(rfl)
theorem z8d:z7V i none=none:=(rfl)
theorem y7d{d:D}{r:SS}:owA 0 (some (.ow d)::r)=some d:=(rfl)
theorem y7A{x:Option SD}{r:SS}:owA (i+1) (x::r)=owA i r:=(rfl)
end
end L2

/-! ### M5: changes of owned lists;comprehensions -/
namespace L2
open PySem
def z7q:Option (List D)->Option (List D):=z4O
def st0V(o k v:Option D):Option D:=match o,k,v with
 |some (.lst ds),some (.int k),some d=>(ixN ds.length k).map fun j=>.lst (ds.set j d)
 |_,_,_=>none
def st1V(o k j v:Option D):Option D:=match o,k,j,v with
 |some (.lst ds),some (.int k),some (.int j),some d=>(ixN ds.length k).bind fun k'=>(match ds[k']? with
  |some (.lst es)=>if z0L es=true then(ixN es.length j).map fun j'=>.lst (ds.set k' (.lst (es.set j' d)))else none
  |_=>none)
 |_,_,_,_=>none
def m0V(M:List D->List D->Option (List D))(o:Option D)(args:Option (List D)):Option D:=match o,args with
 |some (.lst ds),some args=>(M ds args).map .lst
 |_,_=>none
def m1V(M:List D->List D->Option (List D))(o k:Option D)(args:Option (List D)):Option D:=match o,k,args with
 |some (.lst ds),some (.int k),some args=>(ixN ds.length k).bind fun j=>(match ds[j]? with
  |some (.lst es)=>if z0L es=true then(z4O (M es args)).map fun es'=>.lst (ds.set j (.lst es'))else none
  |_=>none)
 |_,_,_=>none
def mMV(M:List D->Option D)(o:Option D)(args:Option (List D)):Option D:=match o,args with
 |some d0,some args=>M (d0::args)
 |_,_=>none
section
variable{f g fk fj fv:DE}{s:SS}{i:Nat}{M:List D->List D->Option (List D)}{fl:List DE}
theorem y6j{d:D}:z2C i (some d) s=some (.nx ((z0r i s).set i (some (.ow d)))):=(rfl)
theorem y5I{ds:List D}(h:z0L ds=true):z7q (some ds)=some ds:=if_pos h
/-- what is an int,what is a list that is owned -/
def kI:D->Option Int
 |.int k=>some k
 |_=>none
def kL:D->Option (List D)
 |.lst ds=>some ds
 |_=>none
def kW:Option (Option SD)->Option D
 |some (some (.ow d))=>some d
 |_=>none
theorem y7I:owA i s=kW s[i]?:=by
 unfold owA kW
 generalize s[i]? = x
 rcases x with _ | _ | ⟨x | x | ⟨r,x⟩⟩ <;> rfl
theorem mt2{β:Type}{k:D}{x:Option (Option SD)}{F:Int->List D->Option β}:(match k,x with | .int k,some (some (.ow (.lst ds)))=>F k ds | _,_=>none)=(kI k).bind fun k=>((kW x).bind kL).bind fun ds=>F k ds:=by
 cases k with
 |int k=>rcases x with _ | _ | ⟨x | x | ⟨r,x⟩⟩ <;> first | rfl | (cases x <;> rfl)
 |_=>rfl
theorem mt3{β:Type}{k j:D}{x:Option (Option SD)}{F:Int->Int->List D->Option β}:(match k,j,x with | .int k,.int j,some (some (.ow (.lst ds)))=>F k j ds | _,_,_=>none)=(kI k).bind fun k=>(kI j).bind fun j=>((kW x).bind kL).bind fun ds=>F k j ds:=by
 cases k with
 |int k=>
  cases j with
  |int j=>rcases x with _ | _ | ⟨x | x | ⟨r,x⟩⟩ <;> first | rfl | (cases x <;> rfl)
  |_=>rfl
 |_=>rfl
theorem st0V_k{o k v:Option D}:st0V o k v=(o.bind kL).bind fun ds=>(k.bind kI).bind fun k=>v.bind fun d=>(ixN ds.length k).map fun j=>.lst (ds.set j d):=by
 rcases o with _ | o
 ·rfl
 ·cases o with
  |lst ds=>
   rcases k with _ | k
   ·rfl
   ·cases k with
    |int k=>cases v <;> rfl
    |_=>rfl
  |_=>rfl
theorem y6Y{o k j v:Option D}:st1V o k j v=(o.bind kL).bind fun ds=>(k.bind kI).bind fun k=>(j.bind kI).bind fun j=>v.bind fun d=>(ixN ds.length k).bind fun k'=>(match ds[k']? with
  |some (.lst es)=>if z0L es=true then(ixN es.length j).map fun j'=>.lst (ds.set k' (.lst (es.set j' d)))else none
  |_=>none):=by
 rcases o with _ | o
 ·rfl
 ·cases o with
  |lst ds=>
   rcases k with _ | k
   ·rfl
   ·cases k with
    |int k=>
     rcases j with _ | j
     ·rfl
     ·cases j with
      |int j=>cases v <;> rfl
      |_=>rfl
    |_=>rfl
  |_=>rfl
theorem y3p{α:Type}{x:Option α}{F:α->Option D}:z2C i (x.bind F) s=x.bind fun a=>z2C i (F a) s:=by cases x <;> rfl
theorem z1X{α β:Type}{x:Option α}:(x.bind fun _=>(none:Option β))=none:=by cases x <;> rfl
theorem y6N:st0 i fk fv s=z2C i (st0V (owA i s) (fk (z0i s)) (z7y (fv (z0i s)))) s:=by
 have e:st0 i fk fv s=(fv (z0i s)).bind fun d=>if d.imm=true then(fk (z0i s)).bind fun dk=>(kI dk).bind fun k=>((kW s[i]?).bind kL).bind fun ds=>(ixN ds.length k).map fun j=>.nx ((z0r i s).set i (some (.ow (.lst (ds.set j d)))))else none:=by
  refine congrArg (Option.bind (fv (z0i s))) (funext fun d=>?_)
  refine congrArg (fun z=>if d.imm=true then z else none) ?_
  refine congrArg (Option.bind (fk (z0i s))) (funext fun dk=>?_)
  exact mt2 (F:=fun k ds=>(ixN ds.length k).map fun j=>Out.nx ((z0r i s).set i (some (.ow (.lst (ds.set j d))))))
 rw[e,st0V_k,y7I]
 simp only[y3p]
 generalize (kW s[i]?).bind kL=x
 rcases fv (z0i s)with _ | d
 ·show none=x.bind fun ds=>((fk (z0i s)).bind kI).bind fun k=>(none:Option Out)
  simp only[z1X]
 ·show(if d.imm=true then(fk (z0i s)).bind fun dk=>_ else none)=x.bind fun ds=>((fk (z0i s)).bind kI).bind fun k=>(if d.imm=true then some d else none).bind fun d=>_
  split
  ·rcases fk (z0i s)with _ | k
   ·simp only[bh,z1X]
   ·simp only[af]
    cases kI k with
    |none=>simp only[bh,z1X]
    |some k=>
     simp only[af]
     cases x with
     |none=>rfl
     |some ds=>
      simp only[af]
      cases ixN ds.length k <;> rfl
  ·simp only[bh,z1X]
theorem gB{k j:Int}{d:D}{ds:List D}:((ixN ds.length k).bind fun k'=>(match ds[k']? with
   |some (.lst es)=>if z0L es=true then(ixN es.length j).map fun j'=>Out.nx ((z0r i s).set i (some (.ow (.lst (ds.set k' (.lst (es.set j' d)))))))else none
   |_=>none))=z2C i (st1V (some (.lst ds)) (some (.int k)) (some (.int j)) (some d)) s:=by
 show _=z2C i ((ixN ds.length k).bind _) s
 cases ixN ds.length k with
 |none=>rfl
 |some k'=>
  rw[af,af]
  cases ds[k']? with
  |none=>rfl
  |some y=>
   cases y with
   |lst es=>
    dsimp only
    split
    ·cases ixN es.length j <;> rfl
    ·rfl
   |_=>rfl
theorem y6M:st1 i fk fj fv s=z2C i (st1V (owA i s) (fk (z0i s)) (fj (z0i s)) (z7y (fv (z0i s)))) s:=by
 have e:st1 i fk fj fv s=(fv (z0i s)).bind fun d=>if d.imm=true then(fk (z0i s)).bind fun dk=>(fj (z0i s)).bind fun dj=>(kI dk).bind fun k=>(kI dj).bind fun j=>((kW s[i]?).bind kL).bind fun ds=>(ixN ds.length k).bind fun k'=>(match ds[k']? with
   |some (.lst es)=>if z0L es=true then(ixN es.length j).map fun j'=>.nx ((z0r i s).set i (some (.ow (.lst (ds.set k' (.lst (es.set j' d)))))))else none
   |_=>none)else none:=by
  refine congrArg (Option.bind (fv (z0i s))) (funext fun d=>?_)
  refine congrArg (fun z=>if d.imm=true then z else none) ?_
  refine congrArg (Option.bind (fk (z0i s))) (funext fun dk=>?_)
  refine congrArg (Option.bind (fj (z0i s))) (funext fun dj=>?_)
  exact mt3 (F:=fun k j ds=>(ixN ds.length k).bind fun k'=>(match ds[k']? with
   |some (.lst es)=>if z0L es=true then(ixN es.length j).map fun j'=>Out.nx ((z0r i s).set i (some (.ow (.lst (ds.set k' (.lst (es.set j' d)))))))else none
   |_=>none))
 rw[e,y6Y,y7I]
 simp only[y3p]
 generalize (kW s[i]?).bind kL=x
 rcases fv (z0i s)with _ | d
 ·show none=x.bind fun ds=>((fk (z0i s)).bind kI).bind fun k=>((fj (z0i s)).bind kI).bind fun j=>(none:Option Out)
  simp only[z1X]
 ·show(if d.imm=true then(fk (z0i s)).bind fun dk=>_ else none)=x.bind fun ds=>((fk (z0i s)).bind kI).bind fun k=>((fj (z0i s)).bind kI).bind fun j=>(if d.imm=true then some d else none).bind fun d=>_
  split
  ·rcases fk (z0i s)with _ | k
   ·simp only[bh,z1X]
   ·simp only[af]
    rcases fj (z0i s)with _ | j
    ·simp only[bh,z1X]
    ·simp only[af]
     cases kI k with
     |none=>simp only[bh,z1X]
     |some k=>
      cases kI j with
      |none=>simp only[bh,af,z1X]
      |some j=>
       simp only[af]
       cases x with
       |none=>rfl
       |some ds=>
        have:=gB (i:=i) (s:=s) (k:=k) (j:=j) (d:=d) (ds:=ds)
        rw[y6Y]at this
        simp only[af,y3p,kL,kI]at this
        simp only[af]
        exact this
  ·simp only[bh,z1X]
theorem ev_m0:m0 i M fl s=z2C i (m0V M (owA i s) (z7q (z0k fl (z0i s)))) s:=by
 unfold m0 owA
 rcases z0k fl (z0i s)with _ | args
 ·rcases s[i]? with _ | _ | ⟨x | x | ⟨r,x⟩⟩ <;> (first | rfl | (cases x <;> rfl))
 ·show(if z0L args=true then _ else _)=z2C i (m0V M _ (if z0L args=true then some args else none)) s
  split
  ·rcases s[i]? with _ | _ | ⟨x | x | ⟨r,x⟩⟩ <;> (first | rfl | (cases x <;> first | rfl | (rename_i ds;show Option.map _ (M ds args)=z2C i (Option.map _ (M ds args)) s;cases M ds args <;> rfl)))
  ·rcases s[i]? with _ | _ | ⟨x | x | ⟨r,x⟩⟩ <;> (first | rfl | (cases x <;> rfl))
theorem m_m1{k:Int}{ds args:List D}:((ixN ds.length k).bind fun j=>(match ds[j]? with
   |some (.lst es)=>if z0L es=true then(M es args).bind fun es'=>if z0L es'=true then some (Out.nx ((z0r i s).set i (some (.ow (.lst (ds.set j (.lst es')))))))else none else none
   |_=>none))=z2C i (m1V M (some (.lst ds)) (some (.int k)) (some args)) s:=by
 show _=z2C i ((ixN ds.length k).bind _) s
 cases ixN ds.length k with
 |none=>rfl
 |some k'=>
  rw[af,af]
  cases ds[k']? with
  |none=>rfl
  |some y=>
   cases y with
   |lst es=>
    dsimp only
    split
    ·cases M es args with
     |none=>rfl
     |some es'=>
      show(if z0L es'=true then _ else _)=z2C i (Option.map _ (if z0L es'=true then _ else _)) s
      split <;> rfl
    ·rfl
   |_=>rfl
theorem ev_m1:m1 i fk M fl s=z2C i (m1V M (owA i s) (fk (z0i s)) (z7q (z0k fl (z0i s)))) s:=by
 unfold m1 owA
 rcases z0k fl (z0i s)with _ | args
 ·rcases fk (z0i s)with _ | (_ | _ | _ | _ | _ | _ | _ | _) <;> rcases s[i]? with _ | _ | ⟨x | x | ⟨r,x⟩⟩ <;> (first | rfl | (cases x <;> rfl))
 ·show _=z2C i (m1V M _ _ (if z0L args=true then some args else none)) s
  by_cases h:z0L args=true
  ·rw[if_pos h]
   rcases fk (z0i s)with _ | (_ | _ | k | _ | _ | _ | _ | _) <;> rcases s[i]? with _ | _ | ⟨x | x | ⟨r,x⟩⟩ <;> (first | rfl | (cases x <;> first | rfl | exact(if_pos h).trans m_m1 | exact if_pos h) | exact if_pos h)
  ·rw[if_neg h]
   rcases fk (z0i s)with _ | (_ | _ | k | _ | _ | _ | _ | _) <;> rcases s[i]? with _ | _ | ⟨x | x | ⟨r,x⟩⟩ <;> (first | rfl | (cases x <;> first | rfl | exact if_neg h) | exact if_neg h)
theorem y0v{M:List D->Option D}:asgM i M fl s=z2C i (mMV M (owA i s) (z7q (z0k fl (z0i s)))) s:=by
 unfold asgM owA
 rcases z0k fl (z0i s)with _ | args
 ·rcases s[i]? with _ | _ | ⟨x | x | ⟨r,x⟩⟩ <;> rfl
 ·show(if z0L args=true then _ else _)=z2C i (mMV M _ (if z0L args=true then some args else none)) s
  split
  ·rcases s[i]? with _ | _ | ⟨x | x | ⟨r,x⟩⟩ <;> first | rfl | (show Option.map _ (M (x::args))=z2C i (M (x::args)) s;cases M (x::args) <;> rfl)
  ·rcases s[i]? with _ | _ | ⟨x | x | ⟨r,x⟩⟩ <;> rfl
theorem z9w:z7P i f s=z2C i (m0V z8H (owA i s) (z9U (f (z0i s)) (some []))) s:=by
 unfold z7P owA
 rcases f (z0i s)with _ | d
 ·rcases s[i]? with _ | _ | ⟨x | x | ⟨r,x⟩⟩ <;> (first | rfl | (cases x <;> rfl))
 ·rcases s[i]? with _ | _ | ⟨x | x | ⟨r,x⟩⟩ <;> (first | rfl | (cases x <;> first | rfl | (rename_i ds;show Option.map _ (z8H ds [d])=z2C i (Option.map _ (z8H ds [d])) s;cases z8H ds [d] <;> rfl)))
theorem z8P:ins0N i f g s=z2C i (m0V y2y (owA i s) (z9U (z7y (f (z0i s))) (z9U (g (z0i s)) (some [])))) s:=by
 unfold ins0N owA
 rcases f (z0i s)with _ | k
 ·rcases s[i]? with _ | _ | ⟨x | x | ⟨r,x⟩⟩ <;> (first | rfl | (cases x <;> rfl))
 ·show(if k.imm=true then _ else _)=z2C i (m0V y2y _ (z9U (if k.imm=true then some k else none) _)) s
  split
  ·rcases g (z0i s)with _ | d
   ·rcases s[i]? with _ | _ | ⟨x | x | ⟨r,x⟩⟩ <;> (first | rfl | (cases x <;> rfl))
   ·rcases s[i]? with _ | _ | ⟨x | x | ⟨r,x⟩⟩ <;> (first | rfl | (cases x <;> first | rfl | (rename_i ds;show Option.map _ (y2y ds [k,d])=z2C i (Option.map _ (y2y ds [k,d])) s;cases y2y ds [k,d] <;> rfl)))
  ·rcases s[i]? with _ | _ | ⟨x | x | ⟨r,x⟩⟩ <;> (first | rfl | (cases x <;> rfl))
end
theorem es_v1{d:D}:(SD.sh d).val=d:=(rfl)
theorem es_v2{d:D}:(SD.ow d).val=d:=(rfl)
theorem y6S{bs:List Bool}:allF [.lst (bs.map bD)]=some (.bl (bs.all fun b=>b)):=by
 show(z2Z (bs.map bD)).map (fun bs=>D.bl (bs.all fun b=>b))=_
 rw[z4s]
 rfl
theorem ea_any{bs:List Bool}:anyF [.lst (bs.map bD)]=some (.bl (bs.any fun b=>b)):=by
 show(z2Z (bs.map bD)).map (fun bs=>D.bl (bs.any fun b=>b))=_
 rw[z4s]
 rfl
/-! tables -/
theorem z9E{T:List (List Bool)}{a b:Nat}{v:Bool}(ha:a<T.length)(hb:b<T[a].length):st1V (some (z0u T)) (some (.int (a:Int))) (some (.int (b:Int))) (some (.bl v))=some (z0u (T.set a (T[a].set b v))):=by
 show((ixN (T.map z0S).length (a:Int)).bind fun k'=>(match (T.map z0S)[k']? with
  |some (.lst es)=>if z0L es=true then(ixN es.length (b:Int)).map fun j'=>D.lst ((T.map z0S).set k' (.lst (es.set j' (.bl v))))else none
  |_=>none))=_
 rw[z7C (by simpa using ha),af]
 have e1:(T.map z0S)[a]? = some (.lst (T[a].map bD)):=by rw[aL,ae ha];rfl
 rw[e1]
 dsimp only
 rw[if_pos (z1b _),z7C (by simpa using hb),bz]
 unfold z0u
 rw[cO]
 unfold z0S
 rw[cO]
 rfl
theorem z2S{T:List (List Bool)}:z2j [z0u T]=some (.int (T.length:Int)):=by
 show some (D.int ((T.map z0S).length:Nat))=_
 rw[ah]
theorem ix_tab{T:List (List Bool)}{k:Nat}(h:k<T.length):ixD (z0u T) (.int (k:Int))=some (z0S T[k]):=tab_ix h
theorem ix_row{r:List Bool}{k:Nat}(h:k<r.length):ixD (z0S r) (.int (k:Int))=some (.bl r[k]):=row_ix h
theorem ins_at{n b:Nat}(h:b≤n):z9O n (b:Int)=b:=by
 unfold z9O
 rw[if_neg (by omega),cS,Nat.min_eq_left h]
theorem z4V{x:Int}{n:Nat}(h:0<n):∃a:Nat,x % (n:Int)=(a:Int)∧a<n:=by
 have h1:=Int.emod_nonneg x (show(n:Int)≠0 by omega)
 have h2:=Int.emod_lt_of_pos x (show(0:Int)<n by omega)
 exact⟨(x % (n:Int)).toNat,by omega,by omega⟩
/-! comprehensions,by what each item comes to -/
theorem z7R{α:Type}{enc:α->D}{c:DS->Option Bool}{f:DE}{δ:DS}(p:α->Bool)(g:α->D):∀{xs:List α},(∀x∈xs,c (δ++[some (enc x)])=some (p x))->(∀x∈xs,p x=true->f (δ++[some (enc x)])=some (g x))->z1V (z2l c f δ) (xs.map enc)=some ((xs.filter p).map g)
 |[],_,_=>rfl
 |x::r,hc,hf=>by
  have ih:=z7R (xs:=r) p g (fun y hy=>hc y (ac _ hy)) fun y hy=>hf y (ac _ hy)
  rw[aO]
  unfold z1V
  rw[ih]
  unfold z2l
  rw[hc x ag]
  cases hp:p x with
  |true=>
   show((if true=true then(f (δ++[some (enc x)])).map some else some none).bind _)=_
   rw[if_pos rfl,hf x ag hp,List.filter_cons_of_pos hp]
   rfl
  |false=>
   rw[List.filter_cons_of_neg (by rw[hp];exact aj)]
   rfl
theorem z2f{α:Type}{enc:α->D}{f:DE}{δ:DS}(g:α->D){xs:List α}(hf:∀x∈xs,f (δ++[some (enc x)])=some (g x)):z1V (z2l z2D f δ) (xs.map enc)=some (xs.map g):=by
 rw[z7R (fun _=>true) g (fun _ _=>rfl) fun x hx _=>hf x hx,List.filter_eq_self.mpr fun _ _=>rfl]
/-! ints as natural numbers;indexes -/
def nD(n:Nat):D:=.int (n:Int)
theorem z5V{n:Nat}:z4h 0 n=(ar n).map nD:=by
 unfold z4h nD
 refine cH fun k _=>?_
 rw[bC]
theorem at_nat{α:Type}{xs:List α}{k:Nat}(h:k<xs.length):atI xs (k:Int)=some xs[k]:=z4Z (ae h)
theorem y2v{n k:Nat}(h:k<n):ixN n (k:Int)=some k:=z7C h
end L2

/-! ### M6: ballots -/
namespace L2
open PySem
def y5V:Option (List D)->Option (List D)
 |some ds=>if ds.length≤sizeLine then some ds else none
 |none=>none
theorem z8W{g:DS->Option (List D)}{δ:DS}:y7E g δ=y5V (g δ):=by
 unfold y7E y5V
 cases g δ <;> rfl
theorem y4l{n:Int}:intF [.int n]=some (.int n):=(rfl)
theorem y0s{k:Bool}:intF [.bl k]=some (.int (if k=true then 1 else 0)):=(rfl)
theorem z8E:∀o:List Int,z0L (o.map D.int)=true
 |[]=>rfl
 |n::o=>by
  show(true&&z0L (o.map D.int))=true
  rw[z8E o]
  rfl
theorem z9c:∀o:List Int,PyData.canLayAll0 (z5l (o.map D.int))=true
 |[]=>rfl
 |n::o=>by
  show(true&&PyData.canLayAll0 (z5l (o.map D.int)))=true
  rw[z9c o]
  rfl
theorem z8D:∀o:List Int,PyData.depthAll (z5l (o.map D.int))=0
 |[]=>rfl
 |n::o=>by
  show max 0 (PyData.depthAll (z5l (o.map D.int)))=0
  rw[z8D o]
  rfl
theorem z0E{x:Option Out}{b:SS->Option Out}{I:SS->Prop}{Q:Out->Prop}(h:hol x fun o=>∃s,o = .nx s∧I s)(k:∀s,I s->hol (b s) Q):hol (z6E x b) Q:=by
 obtain⟨o,rfl,s,rfl,q⟩:=h
 exact k s q
def rngI(m:Nat):List Int:=(ar m).map fun k=>((k:Nat):Int)
/-- votes as they are drawn -/
structure Good(m:Nat)(b:Int×List Int):Prop where
 lo:1≤b.1
 hi:b.1≤10 ^ 30
 perm:b.2.Perm (rngI m)
theorem Good.mem{m:Nat}{b:Int×List Int}(h:Good m b){k:Nat}(hk:k<m):((k:Nat):Int)∈b.2:=h.perm.mem_iff.mpr (bc.mpr ⟨k,aD.mpr hk,rfl⟩)
/-! the place of a thing in an order -/
end L2

/-! ### M7: tables read by places;lists of things -/
namespace L2
open PySem
def at2(T:List (List Bool))(i j:Nat):Bool:=(T.getD i []).getD j false
def thD(th:List Nat):D:=.lst (th.map nD)
theorem y1P{T:List (List Bool)}{i:Nat}(h:i<T.length):ixD (z0u T) (.int (i:Int))=some (z0S (T.getD i [])):=by
 rw[ix_tab h]
 simp[bb,ae h]
theorem y1F{r:List Bool}{j:Nat}(h:j<r.length):ixD (z0S r) (.int (j:Int))=some (.bl (r.getD j false)):=by
 rw[ix_row h]
 simp[bb,ae h]
theorem Sq.len{n:Nat}{T:List (List Bool)}(h:Sq n T){i:Nat}(hi:i<n):(T.getD i []).length=n:=by
 have h1:i<T.length:=by rw[h.1];exact hi
 have:T.getD i []=T[i]:=by simp[bb,ae h1]
 rw[this]
 exact h.row h1
theorem ix2{n:Nat}{T:List (List Bool)}(h:Sq n T){i j:Nat}(hi:i<n)(hj:j<n):o2 ixD (ixD (z0u T) (.int (i:Int))) (some (.int (j:Int)))=some (.bl (at2 T i j)):=by
 rw[y1P (by rw[h.1];exact hi),eo_2,y1F (by rw[h.len hi];exact hj)]
 rfl
def z6y(th:List Nat)(f:Nat->Nat->Bool):List (List Bool):=th.map fun i=>th.map fun j=>f i j
theorem z9j{α β:Type}{f:α->β}{xs:List α}{i:Nat}{d:β}(h:i<xs.length):(xs.map f).getD i d=f xs[i]:=by
 simp[bb,h]
theorem z5Y{T:List (List Bool)}:z5b (z0u T)=some (T.map z0S):=(rfl)
theorem y2G{th:List Nat}:z5b (thD th)=some (th.map nD):=(rfl)
theorem z8K{th:List Nat}:z2j [thD th]=some (.int (th.length:Int)):=by
 show some (D.int ((th.map nD).length:Nat))=_
 rw[ah]
theorem y7J:∀th:List Nat,z0L (th.map nD)=true
 |[]=>rfl
 |n::th=>by
  show(true&&z0L (th.map nD))=true
  rw[y7J th]
  rfl
theorem okP_th(th:List Nat):okP (thD th)=true:=by
 have e:th.map nD=(th.map fun n=>((n:Nat):Int)).map D.int:=by rw[aJ];rfl
 unfold okP thD
 rw[e,aF,decide_eq_true_eq]
 refine⟨z9c _,?_⟩
 show PyData.depthAll (z5l ((th.map fun n=>((n:Nat):Int)).map D.int))+1≤60
 rw[z8D]
 decide
theorem ne_self{d:D}(h:okP d=true):neD d d=some (.bl false):=by
 unfold neD
 rw[h]
 show(if(true&&true)=true then some (D.bl (!PyData.eqv (toP d) (toP d)))else none)=_
 rw[if_pos (show(true&&true)=true from rfl),SeqAt.eqv_refl _ (z0B h).1]
 rfl
/-! pairs of a number and an item -/
theorem z9d{fi:DS->Option (List D)}{c:DS->Option Bool}{f:DE}{δ:DS}:y7o fi c f δ=z2A (fi δ) (two (compG c f δ)):=by
 unfold y7o z2A
 cases fi δ <;> rfl
theorem y0E{f:DE}{δ:DS}:y1O f δ=(f δ).bind y0c:=(rfl)
end L2

/-! ### M8: dicts,turned and joined lists;the table of votes -/
namespace L2
open PySem
def chO(F G:D->D->Option D)(x y z:Option D):Option D:=match x,y with
 |some x,some y=>match F x y with
  |some (.bl true)=>z.bind fun z=>G y z
  |some (.bl false)=>some (.bl false)
  |_=>none
 |_,_=>none
theorem z9n{F G:D->D->Option D}{f g h:DE}{δ:DS}:z5o F G f g h δ=chO F G (f δ) (g δ) (h δ):=by
 unfold z5o chO
 cases f δ <;> cases g δ <;> rfl
theorem y5z{F G:D->D->Option D}{x y z:D}{b c:Bool}(h1:F x y=some (.bl b))(h2:G y z=some (.bl c)):chO F G (some x) (some y) (some z)=some (.bl (b&&c)):=by
 show(match F x y with
  |some (.bl true)=>(some z).bind fun z=>G y z
  |some (.bl false)=>some (.bl false)
  |_=>none)=_
 rw[h1]
 cases b with
 |true=>exact h2
 |false=>rfl
def inO:Option D->Option D->Option Bool
 |some x,some y=>inK x y
 |_,_=>none
theorem y1H{f g:DE}{δ:DS}:y4R f g δ=inO (f δ) (g δ):=by
 unfold y4R inO
 cases f δ <;> cases g δ <;> rfl
theorem eo_in{x y:D}:inO (some x) (some y)=inK x y:=(rfl)
theorem y0M{f g:DE}{δ:DS}:dDNin f g δ=(y4R f g δ).map (!·):=(rfl)
def y4P(o k v:Option D):Option D:=match o,k,v with
 |some (.dct ks ds),some dk,some d=>(z7Z dk).bind fun k=>if z0L ds=true∧ks.length<sizeLine then some (.dct (z7Q ks k) (z7J ks ds k d))else none
 |_,_,_=>none
theorem gx{i:Nat}{s:SS}{dk d:D}{ks:List Key}{ds:List D}:(match z7Z dk,(some (some (SD.ow (.dct ks ds))):Option (Option SD))with
   |some k,some (some (.ow (.dct ks ds)))=>if z0L ds=true∧ks.length<sizeLine then some (Out.nx ((z0r i s).set i (some (.ow (.dct (z7Q ks k) (z7J ks ds k d))))))else none
   |_,_=>none)=z2C i (y4P (some (.dct ks ds)) (some dk) (some d)) s:=by
 show _=z2C i ((z7Z dk).bind _) s
 cases z7Z dk with
 |none=>rfl
 |some k=>
  show(if z0L ds=true∧ks.length<sizeLine then _ else _)=z2C i (if z0L ds=true∧ks.length<sizeLine then _ else _) s
  split <;> rfl
theorem y0H{i:Nat}{fk fv:DE}{s:SS}:dput i fk fv s=z2C i (y4P (owA i s) (fk (z0i s)) (z7y (fv (z0i s)))) s:=by
 unfold dput owA
 rcases fv (z0i s)with _ | d
 ·rcases fk (z0i s)with _ | dk <;> rcases s[i]? with _ | _ | ⟨x | x | ⟨r,x⟩⟩ <;> (first | rfl | (cases x <;> rfl))
 ·show(if d.imm=true then _ else _)=z2C i (y4P _ _ (if d.imm=true then some d else none)) s
  split
  ·rcases fk (z0i s)with _ | dk
   ·rcases s[i]? with _ | _ | ⟨x | x | ⟨r,x⟩⟩ <;> (first | rfl | (cases x <;> rfl))
   ·rw[af]
    rcases s[i]? with _ | _ | ⟨x | x | ⟨r,x⟩⟩
    ·cases z7Z dk <;> rfl
    ·cases z7Z dk <;> rfl
    ·cases z7Z dk <;> rfl
    ·cases x with
     |dct ks ds=>exact gx
     |_=>(cases z7Z dk <;> rfl)
    ·cases z7Z dk <;> rfl
  ·rcases fk (z0i s)with _ | dk <;> rcases s[i]? with _ | _ | ⟨x | x | ⟨r,x⟩⟩ <;> (first | rfl | (cases x <;> rfl))
def exO(x:Option D)(s:SS):Option Out:=match x with
 |some _=>some (.nx s)
 |none=>none
theorem z9z{f:DE}{s:SS}:exprN f s=exO (f (z0i s)) s:=by
 unfold exprN exO
 cases f (z0i s) <;> rfl
theorem eo_ex{d:D}{s:SS}:exO (some d) s=some (.nx s):=(rfl)
def catO:Option D->Option D->Option (List D)
 |some x,some y=>catLs x y
 |_,_=>none
theorem y6q{f g:DE}{δ:DS}:dCat f g δ=catO (f δ) (g δ):=by
 unfold dCat catO
 cases f δ <;> cases g δ <;> rfl
def y5v:Option D->Option D->Option (List D)
 |some x,some y=>revLs x y
 |_,_=>none
theorem y0S{f g:DE}{δ:DS}:z6L f g δ=y5v (f δ) (g δ):=by
 unfold z6L y5v
 cases f δ <;> cases g δ <;> rfl
theorem z4H{ds:List D}:y5v (some (.lst ds)) (some (.int (-1)))=some ds.reverse:=(rfl)
theorem y2X{ds:List D}:revT (.tup ds) (.int (-1))=some (.tup ds.reverse):=(rfl)
theorem y5K{i j:Int}:maxF [.int i,.int j]=some (.int (if j>i then j else i)):=(rfl)
theorem eo_cat{ds es:List D}(h:ds.length+es.length≤1000000):catO (some (.lst ds)) (some (.lst es))=some (ds++es):=if_pos (z2g h)
theorem y3a{d:D}{r:SS}:y4A 0 (some (.ow d)::r)=some (.sh d)::r:=(rfl)
theorem y2p{i:Nat}{x:Option SD}{r:SS}:y4A (i+1) (x::r)=x::y4A i r:=by
 unfold y4A
 rw[df]
 rcases r[i]? with _ | _ | ⟨y | y | ⟨q,y⟩⟩ <;> rfl
/-! a dict of things told -/
def z6N(p:List Int):D:=.dct (p.map Sum.inl) (p.map fun _=>.bl true)
theorem told_in{p:List Int}{x:Int}(h:x∉p):inK (.int x) (z6N p)=some false:=by
 show some (z9h (p.map Sum.inl) (.inl x))=_
 congr 1
 unfold z9h
 rw[cw,cP]
 intro y hy z
 have:(Sum.inl y:Key)=Sum.inl x:=of_decide_eq_true z
 cases this
 exact h hy
theorem z7j:∀p:List Int,z0L (p.map fun _=>D.bl true)=true
 |[]=>rfl
 |_::p=>by
  show(true&&z0L (p.map fun _=>D.bl true))=true
  rw[z7j p]
  rfl
theorem y4E{p:List Int}{x:Int}(h:x∉p)(hl:p.length≤1000000):y4P (some (z6N p)) (some (.int x)) (some (.bl true))=some (z6N (p++[x])):=by
 show(if z0L (p.map fun _=>D.bl true)=true∧(p.map (Sum.inl:Int->Key)).length<sizeLine then _ else _)=_
 rw[if_pos ⟨z7j p,by rw[ah,PySem.sizeLine_eq];omega⟩]
 have hh:z9h (p.map Sum.inl) (.inl x)=false:=by
  have:=told_in h
  exact Option.some.inj this
 unfold z7Q z7J z6N
 rw[hh,if_neg aj,if_neg aj,aT,aT]
 rfl
/-! the table of votes -/
theorem y4S{m:Nat}{x:Int}(h:x∈rngI m):0≤x∧x<(m:Int):=by
 obtain⟨k,hk,rfl⟩:=bc.mp h
 have:=aD.mp hk
 omega
theorem z9P{m:Nat}:(rngI m).Nodup:=by
 unfold rngI
 rw[c9,bH]
 refine List.Pairwise.imp ?_ (c9.mp ci)
 intro a b h z
 exact h (by omega)
theorem Good.len{m:Nat}{b:Int×List Int}(h:Good m b):b.2.length=m:=by
 have:=h.perm.length_eq
 simpa[rngI] using this
end L2

/-! ### M9: clear,extend,sorted,reversed,range with a step;sums -/
namespace Prg
open PySem L2
def clrV:Option D->Option D
 |some (.lst _)=>some (.lst [])
 |_=>none
def extV(o x:Option D):Option D:=match x,o with
 |some (.lst es),some (.lst ds)=>if ds.length+es.length≤sizeLine then some (.lst (ds++es))else none
 |_,_=>none
theorem y3q{i:Nat}{s:SS}:clr0 i s=z2C i (clrV (owA i s)) s:=by
 unfold clr0 owA
 rcases s[i]? with _ | _ | ⟨x | x | ⟨r,x⟩⟩ <;> (first | rfl | (cases x <;> rfl))
theorem z9A{i:Nat}{f:DE}{s:SS}:y2j i f s=z2C i (extV (owA i s) (f (z0i s))) s:=by
 unfold y2j owA
 rcases f (z0i s)with _ | d
 ·rcases s[i]? with _ | _ | ⟨x | x | ⟨r,x⟩⟩ <;> (first | rfl | (cases x <;> rfl))
 ·rcases s[i]? with _ | _ | ⟨x | x | ⟨r,x⟩⟩ <;> cases d <;> (first | rfl | (cases x <;> first | rfl | skip))
  rename_i es ds
  show(if ds.length+es.length≤sizeLine then some _ else none)=z2C i (if ds.length+es.length≤sizeLine then some _ else none) s
  split <;> rfl
theorem y5L{ds:List D}:clrV (some (.lst ds))=some (.lst []):=(rfl)
theorem eo_ext{ds es:List D}(h:ds.length+es.length≤1000000):extV (some (.lst ds)) (some (.lst es))=some (.lst (ds++es)):=if_pos (z2g h)
theorem y1A{f g h:DE}{δ:DS}:dRng3 f g h δ=rng3 (f δ) (g δ) (h δ):=(rfl)
theorem y7a{f:DE}{δ:DS}:dIsN f δ=(f δ).map isN:=(rfl)
theorem y0L{f:DE}{δ:DS}:dNotN f δ=(f δ).map fun d=>!isN d:=(rfl)
theorem y6E{b c:Bool}:isB (.bl b) (.bl c)=some (.bl (b==c)):=(rfl)
theorem y1I{b c:Bool}:notB (.bl b) (.bl c)=some (.bl (b != c)):=(rfl)
theorem y1h{ds:List D}:revF [.lst ds]=some ds.reverse:=(rfl)
/-! sums -/
def sm(f:Nat->Nat):Nat->Nat
 |0=>0
 |n+1=>sm f n+f n
end Prg

/-! ### M10: comprehensions in place,loops that leave,things in lists -/
namespace L2
open PySem
theorem cx_of{α:Type}{enc:α->D}{c:DS->Option Bool}{f:DE}{δ:DS}(p:α->Bool)(g:α->D){xs:List α}(hl:xs.length≤1000)(hc:∀x∈xs,c (δ++[some (enc x)])=some (p x))(hf:∀x∈xs,p x=true->f (δ++[some (enc x)])=some (g x)):z2A (some (xs.map enc)) (z2l c f δ)=some ((xs.filter p).map g):=by
 rw[z3A (by rw[ah];omega)]
 exact z7R p g hc hf
theorem z2d{α:Type}{enc:α->D}{f:DE}{δ:DS}(g:α->D){xs:List α}(hl:xs.length≤1000)(hf:∀x∈xs,f (δ++[some (enc x)])=some (g x)):z2A (some (xs.map enc)) (z2l z2D f δ)=some (xs.map g):=by
 rw[z3A (by rw[ah];omega)]
 exact z2f g hf
theorem z1O{m:Nat}(h:m≤1000000):rng1 (some (.int (m:Int)))=some (z4h 0 m):=by rw[eo_rng1 (by omega)];rfl
theorem mem_ths{a:Nat}{th:List Nat}:memD (.int (a:Int)) (thD th)=some (th.contains a):=by
 unfold thD memD
 show(if(okP (.int (a:Int))&&okP (.lst (th.map nD)))=true then _ else none)=_
 rw[show okP (.lst (th.map nD))=true from okP_th th,show okP (.int (a:Int))=true from rfl]
 show some ((th.map nD).any fun y=>PyData.eqv (toP y) (toP (.int (a:Int))))=_
 congr 1
 rw[cw,dc]
 congr 1
 funext x
 show decide ((x:Int)=(a:Int))=(a==x)
 by_cases h:x=a
 ·subst h;simp
 ·have:¬ a=x:=fun e=>h e.symm
  have h2:¬ (x:Int)=(a:Int):=by omega
  simp[this,h2]
theorem y3V{a:Nat}{th:List Nat}:ninD (.int (a:Int)) (thD th)=some (.bl (!th.contains a)):=by
 unfold ninD
 rw[mem_ths]
 rfl
theorem cat_th{a b:List Nat}(h:a.length+b.length≤1000000):catO (some (thD a)) (some (thD b))=some ((a++b).map nD):=by
 show catO (some (.lst (a.map nD))) (some (.lst (b.map nD)))=_
 rw[eo_cat (by rw[ah,ah];exact h),aT]
theorem z3D(o:List Nat):z4O (some (o.map nD))=some (o.map nD):=z3H (y7J o)
theorem z2V:z4O (some [])=some []:=(rfl)
/-! loops that leave with one answer -/
/-! x=y,taken over -/
def movX(x:Option D)(i j:Nat)(s:SS):Option Out:=match x with
 |some d=>some (.nx (((z0r j s).set j none).set i (some (.ow d))))
 |none=>none
theorem y6b{i j:Nat}{s:SS}:movO i j s=movX (owA j s) i j s:=by
 unfold movO owA movX
 generalize s[j]? = z
 rcases z with _ | _ | x
 ·rfl
 ·rfl
 ·cases x <;> rfl
theorem y7G{d:D}{i j:Nat}{s:SS}:movX (some d) i j s=some (.nx (((z0r j s).set j none).set i (some (.ow d)))):=(rfl)
/-! while -/
/-! reversed,parts from the end -/
theorem y0o{f:DE}{δ:DS}:dRevS f δ=(f δ).bind revS:=(rfl)
/-! loops that only look -/
def ckO(b:Option Bool)(x:Option D):Option (Option D):=match b with
 |some true=>x.bind fun d=>if d.imm=true then some (some d)else none
 |some false=>some none
 |none=>none
theorem z8p{fc:DS->Option Bool}{fe:DE}{δ:DS}:chkIf fc fe δ=ckO (fc δ) (fe δ):=by
 unfold chkIf ckO
 generalize fc δ=b
 rcases b with _ | _ | _ <;> rfl
theorem y6X{x:Option D}:ckO (some false) x=some none:=(rfl)
def csO(x y:Option (Option D)):Option (Option D):=match x with
 |some none=>y
 |some (some d)=>some (some d)
 |none=>none
theorem z6H{f g:DS->Option (Option D)}{δ:DS}:y6h f g δ=csO (f δ) (g δ):=by
 unfold y6h csO
 generalize f δ=b
 rcases b with _ | _ | _ <;> rfl
theorem y7j{y:Option (Option D)}:csO (some none) y=y:=(rfl)
def chkX(i:Nat)(ds:Option (List D))(fb:DS->Option (Option D))(s:SS):Option Out:=match ds with
 |some ds=>if z0L ds=true then chkD i fb ds s else none
 |none=>none
theorem y0t{i:Nat}{fi:DS->Option (List D)}{fb:DS->Option (Option D)}{s:SS}:forC i fi fb s=chkX i (fi (z0i s)) fb s:=by
 unfold forC chkX
 generalize fi (z0i s)=b
 rcases b with _ | _ <;> rfl
/-! exceptions -/
theorem y1U{np nl:Nat}{b:SS->Option Out}{ds:List D}{d:D}(hl:ds.length=np)(h:hol (b (ds.map (fun d=>some (.sh d))++ad nl none)) fun o=>o = .rt d):y7M np nl b ds=some (.val d):=by
 unfold y7M
 rw[if_pos hl,hol_is.mp h]
def rsX(c:Nat)(x:Option D)(s:SS):Option Out:=match x with
 |some _=>some (.ex c s)
 |none=>none
theorem z9B{c:Nat}{f:DE}{s:SS}:z3U c f s=rsX c (f (z0i s)) s:=by
 unfold z3U rsX
 generalize f (z0i s)=x
 cases x <;> rfl
theorem z9i{c:Nat}{d:D}{s:SS}:rsX c (some d) s=some (.ex c s):=(rfl)
theorem z9f{m:List D->Option XO}{fl:List DE}{δ:DS}:z5v m fl δ=(z0k fl δ).bind m:=(rfl)
theorem z8F{m:List D->Option XO}{fl:List DE}{δ:DS}:z6U m fl δ=valO ((z0k fl δ).bind m):=(rfl)
theorem z9p{F:List D->Option D}{f0:DE}{fl:List DE}{δ:DS}:y5Q F f0 fl δ=mMV F (f0 δ) (z7q (z0k fl δ)):=by
 unfold y5Q
 cases f0 δ with
 |none=>rfl
 |some d0=>
  cases z0k fl δ with
  |none=>rfl
  |some args=>
   show(if z0L args=true then F (d0::args)else none)=mMV F (some d0) (if z0L args=true then some args else none)
   split <;> rfl
def repO(x y:Option D):Option (List D):=x.bind fun a=>y.bind fun b=>repLs a b
theorem y5O{f g:DE}{δ:DS}:dRep f g δ=repO (f δ) (g δ):=(rfl)
theorem y3e{d:D}{n:Nat}(h:n≤1000000):repO (some (.lst [d])) (some (.int (n:Int)))=some (ad n d):=by
 have e:∀k:Nat,(ad k [d]).flatten=ad k d:=fun k=>by
  induction k with
  |zero=>rfl
  |succ k ih=>rw[aW,aP,ih,aW];rfl
 show(if(0≤(n:Int)∧(n:Int)≤1000000)∧[d].length*(n:Int).toNat≤sizeLine then some (ad (n:Int).toNat [d]).flatten else none)=_
 rw[if_pos ⟨⟨by omega,by omega⟩,z2g (by simp;exact h)⟩,cS,e]
def ixXO(o:Option XO)(y:Option D):Option XO:=match o with
 |some (.val d)=>y.bind fun y=>(ixD d y).bind fun z=>if z.imm=true then some (.val z)else none
 |some (.exc c)=>some (.exc c)
 |none=>none
theorem y7m{F:DS->Option XO}{g:DE}{δ:DS}:dIxX F g δ=ixXO (F δ) (g δ):=by
 unfold dIxX ixXO
 cases F δ with
 |none=>rfl
 |some o=>cases o <;> rfl
theorem y1C{c:Nat}{y:Option D}:ixXO (some (.exc c)) y=some (.exc c):=(rfl)
theorem z9I{f g:DE}{δ:DS}:dDisp1 f g δ=o2 mkD1 (f δ) (g δ):=ev_d2
theorem y2r{f g h:DE}{δ:DS}:dRngN f g h δ=rngN (f δ) (g δ) (h δ):=(rfl)
theorem y3w{a b:Int}:mkD1 (.int a) (.int b)=some (.dct [.inl a] [.int b]):=(rfl)
theorem y2c{ds:List D}{i:Int}:ixL (.lst ds) (.int i)=atI ds i:=(rfl)
def forX2(i j:Nat)(xs:Option (List D))(b:SS->Option Out)(s:SS):Option Out:=xs.bind fun ds=>z3G i j b ds s
theorem z8v{i j:Nat}{f:DS->Option (List D)}{g:SS->Option Out}{s:SS}:y1X i j f g s=forX2 i j (f (shV s)) g s:=(rfl)
theorem y0W{i j:Nat}{ds:List D}{b:SS->Option Out}{s:SS}:forX2 i j (some ds) b s=z3G i j b ds s:=(rfl)
/-- for place,x in enumerate(xs): behind pre stands x,at the place that pre is long -/
theorem z4l{α:Type}{enc:α->D}{i j:Nat}{b:SS->Option Out}{QO:Out->Prop}{xs:List α}(I:List α->SS->Prop)(hs:∀pre x post,xs=pre++x::post->∀δ,I pre δ->hol (b ((δ.set i (some (.sh (.int ((pre.length:Nat):Int))))).set j (some (.sh (enc x))))) fun o=>match o with | .nx δ'=>I (pre++[x]) δ' | .ct δ'=>I (pre++[x]) δ' | .bk δ'=>QO (.nx δ') | .rt d=>QO (.rt d) | .rb d δ'=>QO (.rb d δ') | .ex c δ'=>QO (.ex c δ'))(he:∀δ,I xs δ->QO (.nx δ)):
  ∀{post pre:List α} {s:SS},xs=pre++post->I pre s->hol (z3G i j b (z0G pre.length (post.map enc)) s) QO
 |[],pre,s,e,h=>⟨_,rfl,he s (by rw[e,aG];exact h)⟩
 |x::post,pre,s,e,h=>by
  obtain⟨o,eo,q⟩:=hs pre x post e s h
  have e2:z0G pre.length ((x::post).map enc) = .tup [.int ((pre.length:Nat):Int),enc x]::z0G (pre++[x]).length (post.map enc):=by
   rw[aO,av]
   rfl
  rw[e2]
  unfold z3G
  show hol ((b ((s.set i (some (.sh (.int ((pre.length:Nat):Int))))).set j (some (.sh (enc x))))).bind _) QO
  rw[eo]
  have e3:xs=(pre++[x])++post:=by rw[e];simp
  cases o with
  |nx s1=>exact z4l I hs he e3 q
  |ct s1=>exact z4l I hs he e3 q
  |bk s1=>exact⟨_,rfl,q⟩
  |rt d=>exact⟨_,rfl,q⟩
  |rb d s1=>exact⟨_,rfl,q⟩
  |ex c s1=>exact⟨_,rfl,q⟩
theorem y6P{d:D}:valO (some (.val d))=some d:=(rfl)
def xrO(x:Option XO)(s:SS):Option Out:=match x with
 |some (.val d)=>some (.rt d)
 |some (.exc c)=>some (.ex c s)
 |none=>none
def xeO(x:Option XO)(s:SS):Option Out:=match x with
 |some (.val _)=>some (.nx s)
 |some (.exc c)=>some (.ex c s)
 |none=>none
def xaO(i:Nat)(x:Option XO)(s:SS):Option Out:=match x with
 |some (.val d)=>some (.nx (s.set i (some (.ow d))))
 |some (.exc c)=>some (.ex c s)
 |none=>none
theorem y2O{F:DS->Option XO}{s:SS}:retX F s=xrO (F (z0i s)) s:=by
 unfold retX xrO
 generalize F (z0i s)=x
 rcases x with _ | _ | _ <;> rfl
theorem z9u{F:DS->Option XO}{s:SS}:y0p F s=xeO (F (z0i s)) s:=by
 unfold y0p xeO
 generalize F (z0i s)=x
 rcases x with _ | _ | _ <;> rfl
theorem y2q{i:Nat}{F:DS->Option XO}{s:SS}:asgX i F s=xaO i (F (z0i s)) s:=by
 unfold asgX xaO
 generalize F (z0i s)=x
 rcases x with _ | _ | _ <;> rfl
theorem y6a{d:D}{s:SS}:xrO (some (.val d)) s=some (.rt d):=(rfl)
theorem y7b{c:Nat}{s:SS}:xrO (some (.exc c)) s=some (.ex c s):=(rfl)
theorem y7N{d:D}{s:SS}:xeO (some (.val d)) s=some (.nx s):=(rfl)
theorem y7D{c:Nat}{s:SS}:xeO (some (.exc c)) s=some (.ex c s):=(rfl)
theorem y6l{i:Nat}{d:D}{s:SS}:xaO i (some (.val d)) s=some (.nx (s.set i (some (.ow d)))):=(rfl)
theorem y6o{i c:Nat}{s:SS}:xaO i (some (.exc c)) s=some (.ex c s):=(rfl)
theorem y7n{c:Nat}{s:SS}{b:SS->Option Out}:z6E (some (.ex c s)) b=some (.ex c s):=(rfl)
def tryX(x:Option Out)(gh:Nat->SS->Option Out):Option Out:=match x with
 |some (.ex c s)=>gh c s
 |o=>o
theorem y7C{gb:SS->Option Out}{gh:Nat->SS->Option Out}{s:SS}:tryO gb gh s=tryX (gb s) gh:=by
 unfold tryO tryX
 generalize gb s=x
 rcases x with _ | x
 ·rfl
 ·cases x <;> rfl
theorem y5J{s:SS}{gh:Nat->SS->Option Out}:tryX (some (.nx s)) gh=some (.nx s):=(rfl)
theorem y6v{d:D}{gh:Nat->SS->Option Out}:tryX (some (.rt d)) gh=some (.rt d):=(rfl)
theorem y6C{c:Nat}{s:SS}{gh:Nat->SS->Option Out}:tryX (some (.ex c s)) gh=gh c s:=(rfl)
/-! except .. as e -/
def unX(i:Nat)(x:Option Out):Option Out:=match x with
 |some o=>unO i o
 |none=>none
theorem y6r{i:Nat}{x:Str}{g:SS->Option Out}{s:SS}:asXO i x g s=unX i (g (s.set i (some (.sh (.exc x))))):=by
 unfold asXO unX
 generalize g (s.set i (some (.sh (.exc x))))=z
 cases z <;> rfl
theorem y6f{i:Nat}{s:SS}:unX i (some (.nx s))=some (.nx (s.set i none)):=(rfl)
theorem y5P{i:Nat}{d:D}:unX i (some (.rt d))=some (.rt d):=(rfl)
/-! return [x,y] -/
def r2O(x y:Option D):Option Out:=match x,y with
 |some d,some e=>some (.rt (.lst [d,e]))
 |_,_=>none
theorem y1g{i j:Nat}{s:SS}:ret2 i j s=r2O (z4m s i) (z4m s j):=by
 unfold ret2 r2O
 generalize z4m s i=x
 generalize z4m s j=y
 rcases x with _ | x <;> rcases y with _ | y <;> rfl
theorem eo_r2{d e:D}:r2O (some d) (some e)=some (.rt (.lst [d,e])):=(rfl)
theorem y3f{d:D}{r:SS}:z4m (some (.ow d)::r) 0=some d:=(rfl)
theorem y0V{d:D}{r:SS}:z4m (some (.sh d)::r) 0=z7y (some d):=(rfl)
theorem y0z{x:Option SD}{r:SS}{i:Nat}:z4m (x::r) (i+1)=z4m r i:=by
 unfold z4m
 rw[df]
end L2

/-! ### M11: what the newer layer files want -/
namespace L2
open PySem
def stepO(x y z:Option D):Option (List D):=x.bind fun x=>y.bind fun y=>z.bind fun z=>y6B x y z
theorem y3C{f g h:DE}{δ:DS}:dStep f g h δ=stepO (f δ) (g δ) (h δ):=(rfl)
/-! ### loops over ranges of anything -/
def iv1:Option D->Option (Int×Nat)
 |some (.int j)=>if -(2 ^ 62)≤j∧j<2 ^ 62 then some (0,j.toNat)else none
 |_=>none
def iv2:Option D->Option D->Option (Int×Nat)
 |some (.int i),some (.int j)=>if -(2 ^ 62)≤i∧i<2 ^ 62∧-(2 ^ 62)≤j∧j<2 ^ 62 then some (i,(j - i).toNat)else none
 |_,_=>none
theorem y7f{f:DE}{δ:DS}:dIv1 f δ=iv1 (f δ):=(rfl)
theorem y7e{f g:DE}{δ:DS}:dIv2 f g δ=iv2 (f δ) (g δ):=(rfl)
def forIX(i:Nat)(o:Option (Int×Nat))(b:SS->Option Out)(s:SS):Option Out:=o.bind fun z=>z3n i b (z4h z.1 z.2) s
theorem y0F{i:Nat}{f:DS->Option (Int×Nat)}{b:SS->Option Out}{s:SS}:forI i f b s=forIX i (f (z0i s)) b s:=(rfl)
theorem z7W{i:Nat}{lo:Int}{n:Nat}{b:SS->Option Out}{s:SS}:forIX i (some (lo,n)) b s=z3n i b (z4h lo n) s:=(rfl)
theorem eo_iv1{n:Int}(h:-(2 ^ 62)≤n∧n<2 ^ 62):iv1 (some (.int n))=some (0,n.toNat):=if_pos h
theorem z7O{m:Nat}(h:m≤1000000):iv1 (some (.int (m:Int)))=some (0,m):=by rw[eo_iv1 (by omega)];rfl
def r3O(x y z:Option D):Option Out:=match x,y,z with
 |some d,some e,some f=>some (.rt (.lst [d,e,f]))
 |_,_,_=>none
theorem y0X{i j l:Nat}{s:SS}:ret3 i j l s=r3O (z4m s i) (z4m s j) (z4m s l):=by
 unfold ret3 r3O
 generalize z4m s i=x
 generalize z4m s j=y
 generalize z4m s l=z
 rcases x with _ | x <;> rcases y with _ | y <;> rcases z with _ | z <;> rfl
theorem eo_r3{d e f:D}:r3O (some d) (some e) (some f)=some (.rt (.lst [d,e,f])):=(rfl)
/-! ### what can be compared -/
def okN(n:Nat)(d:D):Prop:=(toP d).canLay0=true∧(toP d).depth≤n
def oksN(n:Nat)(ds:List D):Prop:=PyData.canLayAll0 (z5l ds)=true∧PyData.depthAll (z5l ds)≤n
theorem y3E{n:Nat}:∀{ds:List D},(∀d∈ds,okN n d)->oksN n ds
 |[],_=>⟨rfl,bn n⟩
 |d::ds,h=>by
  have h1:=h d ag
  have h2:=y3E fun x hx=>h x (ac _ hx)
  constructor
  ·show(PyData.canLay0 (toP d)&&PyData.canLayAll0 (z5l ds))=true
   rw[h1.1,h2.1]
   rfl
  ·show max (PyData.depth (toP d)) (PyData.depthAll (z5l ds))≤n
   have:=h1.2
   have:=h2.2
   omega
theorem z7S{n:Nat}{ds:List D}(h:∀d∈ds,okN n d):okN (n+1) (.lst ds):=by
 have:=y3E h
 exact⟨this.1,Nat.succ_le_succ this.2⟩
theorem z3z{α:Type}{n:Nat}{f:α->D}{xs:List α}(h:∀x∈xs,okN n (f x)):okN (n+1) (.lst (xs.map f)):=z7S fun d hd=>by
 obtain⟨x,hx,rfl⟩:=bc.mp hd
 exact h x hx
theorem okN_up{n k:Nat}{d:D}(h:okN n d)(hk:n≤k):okN k d:=⟨h.1,aR h.2 hk⟩
theorem okN_int{i:Int}:okN 0 (.int i):=⟨rfl,ak 0⟩
theorem y7u{b:Bool}:okN 0 (.bl b):=⟨rfl,ak 0⟩
theorem okN_nat{n:Nat}:okN 0 (nD n):=okN_int
theorem y6Q(th:List Nat):okN 1 (thD th):=z3z fun _ _=>okN_nat
theorem okN_row(r:List Bool):okN 1 (z0S r):=z3z fun _ _=>y7u
theorem z7Y(T:List (List Bool)):okN 2 (z0u T):=z3z fun r _=>okN_row r
theorem y6y{n:Nat}{d:D}(h:okN n d)(hn:n≤60):okP d=true:=by
 unfold okP
 rw[aF,decide_eq_true_eq]
 exact⟨h.1,aR h.2 hn⟩
theorem z7M{n:Nat}{d:D}(h:okN n d)(hn:n≤60):neD d d=some (.bl false):=ne_self (y6y h hn)
theorem eq_same{n:Nat}{d:D}(h:okN n d)(hn:n≤60):eqD d d=some (.bl true):=eq_self (y6y h hn)
/-! ### lists of anything -/
theorem z6r{α:Type}{enc:α->D}{xs:List α}{x:α}(hl:xs.length≤1000000):m0V z8H (some (.lst (xs.map enc))) (some [enc x])=some (.lst ((xs++[x]).map enc)):=by
 show(if(xs.map enc).length<sizeLine then some (xs.map enc++[enc x])else none).map D.lst=_
 rw[ah,if_pos (by rw[PySem.sizeLine_eq];omega),aT]
 rfl
theorem y5k{α:Type}{enc:α->D}{xs:List α}{x:α}{b:Nat}(hb:b≤xs.length)(hl:xs.length≤1000000):m0V y2y (some (.lst (xs.map enc))) (some [.int (b:Int),enc x])=some (.lst ((xs.take b++x::xs.drop b).map enc)):=by
 show Option.map _ (if(xs.map enc).length<sizeLine∧-(2 ^ 63)≤(b:Int)∧(b:Int)<2 ^ 63 then _ else none)=_
 rw[ah,if_pos ⟨by rw[PySem.sizeLine_eq];omega,by omega,by omega⟩,ins_at hb]
 rw[aT,aO,List.map_take,List.map_drop]
 rfl
theorem ix_map{α:Type}{enc:α->D}{xs:List α}{k:Nat}{x:α}(h:xs[k]? = some x):ixD (.lst (xs.map enc)) (.int (k:Int))=some (enc x):=y2N (by rw[aL,h];rfl)
theorem z2R{α:Type}{enc:α->D}{xs:List α}{k:Nat}{d:α}(h:k<xs.length):ixD (.lst (xs.map enc)) (.int (k:Int))=some (enc (xs.getD k d)):=ix_map (by simp[bb,ae h])
theorem z6g{α:Type}{enc:α->D}{xs:List α}:z2j [.lst (xs.map enc)]=some (.int (xs.length:Int)):=by
 show some (D.int ((xs.map enc).length:Int))=_
 rw[ah]
theorem y3P{x:D}{r:List D}:atI (x::r) 0=some x:=z4Z (j:=0) rfl
theorem y6s{x y:D}{r:List D}:atI (x::y::r) 1=some y:=z4Z (j:=1) rfl
theorem y7L{x y z:D}{r:List D}:atI (x::y::z::r) 2=some z:=z4Z (j:=2) rfl
theorem ea_min{i j:Int}:minF [.int i,.int j]=some (.int (if j<i then j else i)):=(rfl)
/-! ### tuples of things;cuts -/
theorem z5X:∀{ds:List D},(∀d∈ds,d.imm=true)->z0L ds=true
 |[],_=>rfl
 |d::ds,h=>by
  show(d.imm&&z0L ds)=true
  rw[h d ag,z5X fun x hx=>h x (ac _ hx)]
  rfl
def cutTO(x:Option D)(lo hi:Option (Option Int)):Option D:=match x,lo,hi with
 |some (.tup ds),some l,some h=>some (.tup (z7w ds l h))
 |_,_,_=>none
theorem y1a{f:DE}{fl fh:DS->Option (Option Int)}{δ:DS}:dCutT f fl fh δ=cutTO (f δ) (fl δ) (fh δ):=by
 unfold dCutT cutTO
 rcases f δ with _ | (_ | _ | _ | _ | _ | _ | _ | _) <;> first | rfl | (cases fl δ <;> cases fh δ <;> rfl)
theorem y0k{ds:List D}{k:Nat}(hk:k≤ds.length):z7w ds none (some (k:Int))=ds.take k:=by
 unfold z7w
 have e1:HT.sIx ds.length 0 none=0:=rfl
 have e2:HT.sIx ds.length ds.length (some (k:Int))=k:=by
  show(if(k:Int)<0 then((k:Int)+(ds.length:Int)).toNat else min (k:Int).toNat ds.length)=k
  rw[if_neg (by omega)]
  omega
 rw[e1,e2,List.drop_zero,Nat.sub_zero]
theorem y1L{ds:List D}{k:Nat}:z7w ds (some (k:Int)) none=ds.drop k:=by
 unfold z7w
 have e1:HT.sIx ds.length 0 (some (k:Int))=min k ds.length:=by
  show(if(k:Int)<0 then((k:Int)+(ds.length:Int)).toNat else min (k:Int).toNat ds.length)=_
  rw[if_neg (by omega),cS]
 have e2:HT.sIx ds.length ds.length none=ds.length:=rfl
 rw[e1,e2]
 by_cases h:k≤ds.length
 ·rw[Nat.min_eq_left h]
  exact dg (by rw[cr];exact ak _)
 ·rw[Nat.min_eq_right (by omega),dl (ak _),dl (by omega),List.take_nil]
/-! ### lists put together,the script among them -/
def catSO(x y:Option D):Option (List D):=x.bind fun x=>y.bind fun y=>catSs x y
theorem y2Y{f g:DE}{δ:DS}:dCatS f g δ=catSO (f δ) (g δ):=(rfl)
/-! ### sorted(set(xs)) -/
theorem z8U{f:DE}{δ:DS}:dSortS f δ=(f δ).bind y7w:=(rfl)
/-! ### max,min of lists -/
/-! ### lists of ints -/
/-! ### `if not` of a call that may raise -/
def xnO(x:Option XO)(g h:Option Out)(s:SS):Option Out:=x.bind fun o=>match o with
 |.val (.bl k)=>if k=true then h else g
 |.exc c=>some (.ex c s)
 |_=>none
theorem y4v{F:DS->Option XO}{g h:SS->Option Out}{s:SS}:ifNX F g h s=xnO (F (z0i s)) (g s) (h s) s:=by
 unfold ifNX xnO
 rfl
theorem y5Z{g h:Option Out}{s:SS}:xnO (some (.val (.bl true))) g h s=h:=(rfl)
theorem y6e{g h:Option Out}{s:SS}:xnO (some (.val (.bl false))) g h s=g:=(rfl)
theorem y6w{g h:Option Out}{s:SS}{c:Nat}:xnO (some (.exc c)) g h s=some (.ex c s):=(rfl)
/-! ### `for` over a call that may raise -/
def fxO(x:Option XO)(i:Nat)(g:SS->Option Out)(s:SS):Option Out:=x.bind fun o=>match o with
 |.val (.lst ds)=>z3n i g ds s
 |.exc c=>some (.ex c s)
 |_=>none
theorem y1M{i:Nat}{F:DS->Option XO}{g:SS->Option Out}{s:SS}:forXO i F g s=fxO (F (z0i s)) i g s:=by
 unfold forXO fxO
 rfl
theorem y5Y{i:Nat}{ds:List D}{g:SS->Option Out}{s:SS}:fxO (some (.val (.lst ds))) i g s=z3n i g ds s:=(rfl)
theorem y7p{i:Nat}{g:SS->Option Out}{s:SS}{c:Nat}:fxO (some (.exc c)) i g s=some (.ex c s):=(rfl)
end L2

/-! ### M12: what E63 and E64 want -/
namespace L2
open PySem
def cM2(F:List D->Option D)(a b:Option D)(cs:Option (List D)):Option D:=a.bind fun a=>b.bind fun b=>cs.bind fun cs=>F (a::b::cs)
theorem z6C{F:List D->Option D}{f0 f1:DE}{fl:List DE}{δ:DS}:dCallM2 F f0 f1 fl δ=cM2 F (f0 δ) (f1 δ) (z0k fl δ):=(rfl)
theorem y6Z{F:List D->Option D}{a b:D}{cs:List D}:cM2 F (some a) (some b) (some cs)=F (a::b::cs):=(rfl)
def r1O(x:Option D):Option Out:=x.map fun d=>.rt (.lst [d])
theorem y2S{i:Nat}{s:SS}:ret1 i s=r1O (z4m s i):=(rfl)
theorem eo_r1{d:D}:r1O (some d)=some (.rt (.lst [d])):=(rfl)
def apX(x y:Option D)(i j:Nat)(s:SS):Option Out:=match x,y with
 |some d,some (.lst ds)=>(z8H ds [d]).map fun ds'=>.nx (givS i j (.lst ds') s)
 |_,_=>none
theorem y2n{i j:Nat}{s:SS}:appO i j s=apX (owA j s) (owA i s) i j s:=by
 unfold appO owA apX
 rcases s[j]? with _ | _ | ⟨x | x | ⟨r,x⟩⟩ <;> rcases s[i]? with _ | _ | ⟨y | y | ⟨r',y⟩⟩ <;> (first | rfl | (cases y <;> rfl))
end L2

/-! ### M13: what E66 wants -/
namespace L2
open PySem
def y5u(o x:Option D):Option D:=match x,o with
 |some (.lst es),some (.lst ds)=>if z0L es=true∧ds.length+es.length≤sizeLine then some (.lst (ds++es))else none
 |_,_=>none
theorem z8j{i:Nat}{f:DE}{s:SS}:y4a i f s=z2C i (y5u (owA i s) (f (z0i s))) s:=by
 unfold y4a owA
 cases f (z0i s)with
 |none=>rcases s[i]? with _ | _ | ⟨x | x | ⟨r,x⟩⟩ <;> rfl
 |some d=>
  cases d <;> rcases s[i]? with _ | _ | ⟨x | x | ⟨r,x⟩⟩ <;> (first | rfl | (cases x <;> (first | rfl | (show(if _ then _ else _)=z2C i (if _ then _ else _) s;split <;> rfl))))
theorem eo_extD{ds es:List D}(hi:z0L es=true)(h:ds.length+es.length≤1000000):y5u (some (.lst ds)) (some (.lst es))=some (.lst (ds++es)):=if_pos ⟨hi,z2g h⟩
end L2

/-! ### M14: what E68 wants -/
namespace L2
open PySem
def st0NV(o k v:Option D):Option D:=match o,k,v with
 |some (.lst ds),some (.int k),some d=>(ixN ds.length k).map fun j=>.lst (ds.set j d)
 |_,_,_=>none
theorem y0u{i:Nat}{fk fv:DE}{s:SS}:st0N i fk fv s=z2C i (st0NV (owA i s) (fk (z0i s)) (fv (z0i s))) s:=by
 unfold st0N owA
 rcases fv (z0i s)with _ | d
 ·rcases fk (z0i s)with _ | k <;> rcases s[i]? with _ | _ | ⟨x | x | ⟨r,x⟩⟩ <;> (first | rfl | (cases x <;> first | rfl | (cases k <;> rfl)))
 ·rcases fk (z0i s)with _ | k
  ·rcases s[i]? with _ | _ | ⟨x | x | ⟨r,x⟩⟩ <;> (first | rfl | (cases x <;> rfl))
  ·rcases s[i]? with _ | _ | ⟨x | x | ⟨r,x⟩⟩ <;> cases k <;> (first | rfl | (cases x <;> first | rfl | skip))
   rename_i k ds
   show(ixN ds.length k).map _=z2C i ((ixN ds.length k).map _) s
   cases ixN ds.length k <;> rfl
end L2

/-! M15: zip,xs.append(ys.pop(0)) -/
namespace L2
open PySem
end L2

/-! M16: frozen lists of things -/
namespace L2
open PySem
end L2

/-! M17: texts -/
namespace L2
open PySem
end L2

/-! ### M18: the book -/
namespace L2
open PySem
section
variable{r:List D}{d:D}{s:SS}{i:Nat}
/-! the statements -/
theorem owA_get{d:D}(h:owA i s=some d):s[i]? = some (some (.ow d)):=by
 unfold owA at h
 rcases e:s[i]? with _ | _ | ⟨x | x | ⟨r,x⟩⟩ <;> rw[e]at h <;> first | (cases h;rfl) | cases h
end
end L2

/-! ### M19: the book,with refusals -/
namespace L2
open PySem
section
end
end L2

/-! ### M20: tests that change the state;a book and a list -/
namespace L2
open PySem
section
end
end L2

set_option maxHeartbeats 4000000
namespace Prg
open PySem PySem.Spec PyProof.Rows L2
def top(i:Nat):Stmt:=PySem.Challenge.pw_askorder_k74_joined_and_folded.main.body.getD i (.Pass ⟨0,0,0,0⟩)
abbrev y2E:Stmt:=top 4
abbrev gy:List Str:=["table", "things"]
abbrev y7h:List Str:=["table", "things"]
abbrev z6u:Stmt:=top 5
abbrev y5i:List Str:=["row", "things"]
abbrev z9e:List Str:=["row", "things"]
abbrev z1l:Stmt:=top 7
abbrev z3F:List Str:=["table", "things"]
abbrev z2h:List Str:=["table", "things"]
abbrev z4w:Stmt:=top 8
abbrev y2V:List Str:=["table", "things"]
abbrev z7e:List Str:=["table", "things"]
abbrev z2m:Stmt:=top 9
abbrev z6s:List Str:=["table", "other", "things", "marks"]
abbrev z3x:List Str:=["table", "other", "things"]
abbrev z3B:Stmt:=top 11
abbrev z9J:List Str:=["value", "many"]
abbrev z5w:List Str:=["value", "many"]
abbrev z1s:Stmt:=top 12
abbrev z3K:List Str:=["order", "many", "told", "thing"]
abbrev z2e:List Str:=["order", "many"]
abbrev z3g:Stmt:=top 14
abbrev z7H:List Str:=["pieces", "many", "told", "piece", "places", "place", "thing"]
abbrev z3l:List Str:=["pieces", "many"]
abbrev z5C:Stmt:=top 15
abbrev y4D:List Str:=["table", "pieces"]
abbrev z6w:List Str:=["table", "pieces"]
abbrev z5E:Stmt:=top 16
abbrev y4L:List Str:=["table", "tables", "homes", "place", "inner"]
abbrev z8x:List Str:=["table", "tables"]
abbrev z2I:Stmt:=top 17
abbrev z7l:List Str:=["table", "tables", "one", "homes"]
abbrev z3Q:List Str:=["table", "tables", "one", "homes"]
abbrev z2x:Stmt:=top 18
abbrev z6o:List Str:=["table", "tables", "one", "other"]
abbrev z3v:List Str:=["table", "tables", "one", "other"]
abbrev z2M:Stmt:=top 20
abbrev z7u:List Str:=["found"]
abbrev z3O:List Str:=["found"]
abbrev z1W:Stmt:=top 21
abbrev z5c:List Str:=["script", "k"]
abbrev z3d:List Str:=["script", "k"]
abbrev z1K:Stmt:=top 22
abbrev z4R:List Str:=["cell", "many", "rows", "rest", "one", "other"]
abbrev z2O:List Str:=["cell", "many"]
abbrev z2E:Stmt:=top 23
abbrev z7i:List Str:=["script", "many", "outer", "inner", "homes", "k", "cell", "most", "size", "at", "turn"]
abbrev z3T:List Str:=["script"]
abbrev z2H:Stmt:=top 24
abbrev z7c:List Str:=["mixed", "one", "other"]
abbrev z3V:List Str:=["mixed", "one", "other"]
abbrev z2Q:Stmt:=top 25
abbrev z7d:List Str:=["mixed", "rows", "one"]
abbrev z3S:List Str:=["mixed"]
abbrev z2s:Stmt:=top 26
abbrev z5I:List Str:=["mixed", "pieces", "k"]
abbrev z3p:List Str:=["mixed"]
abbrev z1u:Stmt:=top 27
abbrev z3E:List Str:=["found", "due", "k", "j"]
abbrev z2i:List Str:=["found", "due"]
abbrev z1Z:Stmt:=top 28
abbrev z5g:List Str:=["mixed", "one", "homes"]
abbrev z3e:List Str:=["mixed", "one", "homes"]
abbrev z0Z:Stmt:=top 29
abbrev z3h:List Str:=["mixed", "homes", "due", "handed", "inner", "found"]
abbrev z1L:List Str:=["mixed"]
abbrev z1c:Stmt:=top 30
abbrev z3k:List Str:=["pieces", "many", "handed", "found", "thing"]
abbrev z1H:List Str:=["pieces", "many"]
abbrev z6p:Stmt:=top 31
abbrev gC:List Str:=["script", "mixed", "table", "pieces", "k", "cut", "back", "told", "handed", "found"]
abbrev f9:List Str:=["script"]
theorem nd0:(["row", "things", "other"]:List Str).Nodup:=by decide +kernel
theorem nd1:(["table", "things", "one"]:List Str).Nodup:=by decide +kernel
theorem nd2:(["table", "other", "things", "marks", "thing"]:List Str).Nodup:=by decide +kernel
theorem nd3:(["table", "things", "other"]:List Str).Nodup:=by decide +kernel
theorem nd4:(["table", "pieces", "piece"]:List Str).Nodup:=by decide +kernel
theorem nd5:(["table", "tables", "one", "homes", "other"]:List Str).Nodup:=by decide +kernel
theorem nd6:(["table", "tables", "homes", "place", "inner", "one"]:List Str).Nodup:=by decide +kernel
theorem nd7:(["table", "tables", "homes", "place", "inner", "thing"]:List Str).Nodup:=by decide +kernel
theorem nd8:(["cell", "many", "rows", "rest", "one", "other", "k"]:List Str).Nodup:=by decide +kernel
theorem nd9:(["mixed", "rows", "one", "other"]:List Str).Nodup:=by decide +kernel
theorem nd10:(["mixed", "pieces", "k", "thing"]:List Str).Nodup:=by decide +kernel
theorem nd11:(["mixed", "one", "homes", "other"]:List Str).Nodup:=by decide +kernel
theorem nd12:(["mixed", "homes", "due", "handed", "inner", "found", "row"]:List Str).Nodup:=by decide +kernel
theorem nd13:(["mixed", "homes", "due", "handed", "inner", "found", "one"]:List Str).Nodup:=by decide +kernel
theorem nd14:(["pieces", "many", "handed", "found", "thing", "piece"]:List Str).Nodup:=by decide +kernel
theorem nd15:(["script", "mixed", "table", "pieces", "k", "cut", "back", "told", "handed", "found", "row"]:List Str).Nodup:=by decide +kernel
theorem nd16:(["script", "mixed", "table", "pieces", "k", "cut", "back", "told", "handed", "found", "piece"]:List Str).Nodup:=by decide +kernel
def z5K:SS->Option Out:=(y4g (z0w (z0T (z3Y (z0c 1)) z2D (d2 ixD (z0c 0) (z0c 2)))))
def z3t:List D->Option D:=z3f 2 0 z5K
def y3W:SS->Option Out:=(y4g (mkL (z0T (z3Y (z0c 1)) z2D (z0p z3t [(d2 ixD (z0c 0) (z0c 2)),(z0c 1)]))))
def z8X:List D->Option D:=z3f 2 0 y3W
def z2w:SS->Option Out:=(z0M (z4f 3 (z0w (z0T (z3Y (z0c 2)) z2D (d2 ixD (d2 ixD (z0c 0) (z0c 1)) (z0c 4)))))
 (z2X (dOr (z0p allF [(z0c 3)]) (d1 uNot (z0p anyF [(z0c 3)])))))
def z1F:List D->Option D:=z3f 3 1 z2w
def z4T:SS->Option Out:=(y4g (z0w (z0T (z4d (z0p z2j [(z0c 0)])) (y3o (z1k (d2 ninD (z0c 2) (z0c 1))) (z2G (z1y (z0p z1F [(z0c 0),(z0c 2),(z0c 1)])))) (z0c 2))))
def z3w:List D->Option D:=z3f 2 0 z4T
def z1o:SS->Option Out:=(z2X (d2 eqD (z0p z2j [(z0p z3w [(z0c 0),(z0c 1)])]) (dC (.int 0))))
def z0D:List D->Option D:=z3f 2 0 z1o
def z3y:SS->Option Out:=(z2X (dAnd (dIs "int" (z0c 0)) (dAnd (d1 uNot (dIs "bool" (z0c 0))) (z5o leI ltI (dC (.int 0)) (z0c 0) (z0c 1)))))
def z2b:List D->Option D:=z3f 2 0 z3y
def z0Q:SS->Option Out:=(z0M (ifO (z1k (d2 neD (z0p z2j [(z0c 0)]) (z0c 1))) (z2X (dC (.bl false))) z1M)
 (z0M (z4f 2 (dC (.dct [] [])))
 (z0M (z7z 3 (z3Y (z0c 0)) (z0M (ifO (z9K (z2G (z1y (z0p z2b [(z0c 3),(z0c 1)]))) (y4R (z0c 3) (z0c 2))) (z2X (dC (.bl false))) z1M)
 (dput 2 (z0c 3) (dC (.bl true)))))
 (z2X (dC (.bl true))))))
def z0y:List D->Option D:=z3f 2 2 z0Q
def z2u:SS->Option Out:=(z0M (z4f 2 (z0w (z0k [])))
 (z0M (z7z 3 (z3Y (z0c 0)) (z0M (ifO (z1k (d2 eqD (z0p z2j [(z0c 3)]) (dC (.int 0)))) (z3U 1 (dC (.str "a piece is empty"))) z1M)
 (y4a 2 (z0c 3))))
 (z0M (ifO (z2G (z1y (z0p z0y [(z0c 2),(z0c 1)]))) (z3U 1 (dC (.str "the pieces do not tell each thing once and nothing else"))) z1M)
 (z0M (z4f 4 (z0w (dRep (mkL (z0k [(dC (.int 0))])) (z0c 1))))
 (z0M (y1X 5 3 (y1O (z0c 0)) (z7z 6 (z3Y (z0c 3)) (st0 4 (z0c 6) (z0c 5))))
 (y7y 4))))))
def z1p:List D->Option XO:=y7M 2 5 z2u
def z5O:SS->Option Out:=(z0M (y0p (z5v z1p [(z0c 1),(z0p z2j [(z0c 0)])]))
 (z0M (ifO (z2G (z1y (z0p allF [(mkL (z0T (z3Y (z0c 1)) z2D (z0p z0D [(z0c 0),(z0c 2)])))]))) (z3U 1 (dC (.str "a piece does not stand together"))) z1M)
 (y4g (z0p z8X [(z0c 0),(mkL (z0T (z3Y (z0c 1)) z2D (d2 ixD (z0c 2) (dC (.int 0)))))]))))
def z4j:List D->Option XO:=y7M 2 0 z5O
def z1B:SS->Option Out:=(z0M (ifO (z1k (d2 eqD (d2 ixD (z0c 2) (dC (.int 0))) (d2 ixD (z0c 3) (dC (.int 0))))) (z2X (d2 ixD (d2 ixD (d2 ixD (z0c 1) (d2 ixD (z0c 2) (dC (.int 0)))) (d2 ixD (z0c 2) (dC (.int 1)))) (d2 ixD (z0c 3) (dC (.int 1))))) z1M)
 (z2X (d2 ixD (d2 ixD (z0c 0) (d2 ixD (z0c 2) (dC (.int 0)))) (d2 ixD (z0c 3) (dC (.int 0))))))
def z1C:List D->Option D:=z3f 4 0 z1B
def z2K:SS->Option Out:=(y4g (mkL (z0T (z3Y (z0c 3)) z2D (z0p z1C [(z0c 0),(z0c 1),(z0c 2),(z0c 4)]))))
def z1x:List D->Option D:=z3f 4 0 z2K
def z5N:SS->Option Out:=(z0M (z4f 2 (z0w (z0k [])))
 (z0M (y1X 3 4 (y1O (z0c 1)) (y2j 2 (z0w (z0T (z4d (z0p z2j [(z0c 4)])) z2D (mkT (z0k [(z0c 3),(z0c 5)]))))))
 (y4g (mkL (z0T (z3Y (z0c 2)) z2D (z0p z1x [(z0c 0),(z0c 1),(z0c 5),(z0c 2)]))))))
def z4k:List D->Option D:=z3f 2 3 z5N
def z2J:SS->Option Out:=(z2X (dAnd (dIs "int" (z0c 0)) (d1 uNot (dIs "bool" (z0c 0)))))
def z1N:List D->Option D:=z3f 1 0 z2J
def z1w:SS->Option Out:=(z0M (ifO (z1k (d2 ltI (z0c 1) (z0p z2j [(z0c 0)]))) (z2X (d2 ixD (z0c 0) (z0c 1))) z1M)
 (z2X (dC (.int 0))))
def z0l:List D->Option D:=z3f 2 0 z1w
def z1I:SS->Option Out:=(z0M (z4f 2 (mkL (z0T (z4d (z0c 1)) z2D (z0w (dRep (mkL (z0k [(dC (.bl false))])) (z0c 1))))))
 (z0M (y0i 3 (d2 z5M (d2 mulI (z0c 0) (dC (.int 48271))) (dC (.int 2147483647))))
 (z0M (z7z 4 (z4d (z0c 1)) (z7z 5 (y4N (d2 y4z (z0c 4) (dC (.int 1))) (z0c 1)) (z0M (st1 2 (z0c 4) (z0c 5) (d2 eqD (d2 z5M (z0c 3) (dC (.int 2))) (dC (.int 0))))
 (z0M (st1 2 (z0c 5) (z0c 4) (d2 eqD (d2 z5M (z0c 3) (dC (.int 2))) (dC (.int 1))))
 (y0i 3 (d2 y0h (z0c 3) (dC (.int 2))))))))
 (y7y 2))))
def z0O:List D->Option D:=z3f 2 4 z1I
def z2T:SS->Option Out:=(z0M (y0i 1 (d2 y4z (dC (.int 1)) (d2 z5M (z0p z0l [(z0c 0),(dC (.int 0))]) (dC (.int 4)))))
 (z0M (ifO (z1k (d2 eqD (d2 z5M (d2 y0h (z0p z0l [(z0c 0),(dC (.int 0))]) (dC (.int 4))) (dC (.int 4))) (dC (.int 1)))) (y0i 1 (d2 y4z (z0c 1) (dC (.int 4)))) z1M)
 (z0M (z4f 2 (z0p z0O [(z0p z0l [(z0c 0),(dC (.int 1))]),(z0c 1)]))
 (z0M (z4f 3 (z0w (z0k [])))
 (z0M (z4f 4 (z0w (z0k [])))
 (z0M (forI 5 (dIv1 (z0p z2j [(z0c 2)])) (z0M (z4f 6 (z0p z0l [(z0c 0),(d2 y4z (dC (.int 2)) (z0c 5))]))
 (z0M (y0i 7 (d2 y4z (d2 subI (d2 subI (dC (.int 9)) (z0p z2j [(z0c 4)])) (z0p z2j [(z0c 2)])) (z0c 5)))
 (z0M (y0i 8 (d2 ixD (mkL (z0k [(dC (.int 1)),(z0p minF [(dC (.int 3)),(z0c 7)]),(d2 y4z (dC (.int 1)) (d2 z5M (d2 y0h (z0c 6) (dC (.int 4))) (z0c 7)))])) (z0p minF [(d2 z5M (z0c 6) (dC (.int 4))),(dC (.int 2))])))
 (z0M (z7P 3 (z0p z0O [(d2 y0h (z0c 6) (dC (.int 32))),(z0c 8)]))
 (z7z 9 (z4d (z0c 8)) (z0M (y0i 10 (d2 z5M (z0p z0l [(z0c 0),(d2 y4z (dC (.int 6)) (z0p z2j [(z0c 4)]))]) (d2 y4z (z0p z2j [(z0c 4)]) (dC (.int 1)))))
 (m0 4 y2y [(z0c 10),(mkT (z0k [(z0c 5),(z0c 9)]))]))))))))
 (ret3 2 3 4)))))))
def z1z:List D->Option D:=z3f 1 10 z2T
def z1S:SS->Option Out:=(z0M (ifO (z1k (d2 eqD (d2 ixD (z0c 1) (dC (.int 0))) (d2 ixD (z0c 2) (dC (.int 0))))) (z2X (d2 ixD (d2 ixD (d2 ixD (d2 ixD (z0c 0) (dC (.int 1))) (d2 ixD (z0c 1) (dC (.int 0)))) (d2 ixD (z0c 1) (dC (.int 1)))) (d2 ixD (z0c 2) (dC (.int 1))))) z1M)
 (z2X (d2 ixD (d2 ixD (d2 ixD (z0c 0) (dC (.int 0))) (d2 ixD (z0c 1) (dC (.int 0)))) (d2 ixD (z0c 2) (dC (.int 0))))))
def z1e:List D->Option D:=z3f 3 0 z1S
def z2F:SS->Option Out:=(z0M (z4f 1 (z0w (z0k [])))
 (z0M (z7z 2 (z3Y (d2 ixD (z0c 0) (dC (.int 2)))) (z7P 1 (mkL (z0T (z3Y (d2 ixD (z0c 0) (dC (.int 2)))) z2D (z0p z1e [(z0c 0),(z0c 2),(z0c 3)])))))
 (y7y 1)))
def z1P:List D->Option D:=z3f 1 2 z2F
def z2r:SS->Option Out:=(z0M (z4f 1 (z0w (z0k [])))
 (z0M (forI 2 (dIv1 (z0p z2j [(d2 ixD (z0c 0) (dC (.int 0)))])) (z7P 1 (z0w (z0T (z4d (z0p z2j [(d2 ixD (z0c 0) (dC (.int 2)))])) (z1k (d2 eqD (d2 ixD (d2 ixD (d2 ixD (z0c 0) (dC (.int 2))) (z0c 3)) (dC (.int 0))) (z0c 2))) (z0c 3)))))
 (y7y 1)))
def z1G:List D->Option D:=z3f 1 2 z2r
def z1t:SS->Option Out:=(z0M (ifO (z9K (z2G (z1y (dIs "list" (z0c 0)))) (z1k (d2 neD (z0p z2j [(z0c 0)]) (z0p z2j [(z0c 1)])))) (z2X (dC (.bl false))) z1M)
 (z0M (z7z 2 (z4d (z0p z2j [(z0c 1)])) (z0M (ifO (z9K (z2G (z1y (dIs "list" (d2 ixD (z0c 0) (z0c 2))))) (z1k (d2 neD (z0p z2j [(d2 ixD (z0c 0) (z0c 2))]) (z0p z2j [(d2 ixD (z0c 1) (z0c 2))])))) (z2X (dC (.bl false))) z1M)
 (z7z 3 (z4d (z0p z2j [(d2 ixD (z0c 1) (z0c 2))])) (ifO (z9K (z2G (z1y (dIs "bool" (d2 ixD (d2 ixD (z0c 0) (z0c 2)) (z0c 3))))) (z1k (d2 neD (d2 ixD (d2 ixD (z0c 0) (z0c 2)) (z0c 3)) (d2 ixD (d2 ixD (z0c 1) (z0c 2)) (z0c 3))))) (z2X (dC (.bl false))) z1M))))
 (z2X (dC (.bl true)))))
def z0x:List D->Option D:=z3f 2 2 z1t
def z1U:SS->Option Out:=(y4g (mkL (z0T (z3Y (z0c 2)) z2D (z0p z1e [(z0c 0),(z0c 1),(z0c 3)]))))
def z0W:List D->Option D:=z3f 3 0 z1U
def z0Y:SS->Option Out:=(z0M (z4f 1 (z0w (z1i z7n [(d2 ixD (z0c 0) (dC (.int 2)))])))
 (z0M (z4f 2 (mkL (z0T (z3Y (z0c 1)) z2D (z0p z0W [(z0c 0),(z0c 6),(z0c 1)]))))
 (z0M (z4f 3 (mkL (z0k [(mkL (z0T (z3Y (d2 ixD (z0c 0) (dC (.int 0)))) z2D (z0w (z1i z2n [(z0c 6)])))),(z0w (z0k []))])))
 (z0M (z7z 4 (z3Y (d2 ixD (z0c 0) (dC (.int 1)))) (y2t 3 (dC (.int 1)) (mkL (z0T (z3Y (z0c 4)) z2D (z0w (z1i z2n [(z0c 6)]))))))
 (z0M (z4f 5 (z0p z4k [(d2 ixD (z0c 3) (dC (.int 0))),(d2 ixD (z0c 3) (dC (.int 1)))]))
 (z0M (ifO (z2G (z1y (z0p z0x [(z0c 5),(z0c 2)]))) (z2X (dC (.bl false))) z1M)
 (z0M (m1 5 (dC (.int 0)) clrF [])
 (z0M (clr0 5)
 (z2X (d2 eqD (z0c 3) (mkL (z0k [(d2 ixD (z0c 0) (dC (.int 0))),(d2 ixD (z0c 0) (dC (.int 1)))]))))))))))))
def z0J:List D->Option D:=z3f 1 5 z0Y
def z1a:SS->Option Out:=(z0M (z4f 2 (mkL (z0T (z3Y (z0c 0)) z2D (z0w (z1i z2n [(z0c 5)])))))
 (z0M (z4f 3 (z6U z1p [(z0c 2),(z0c 1)]))
 (z0M (ifO (z9K (z2G (z1y (dIs "list" (z0c 3)))) (z9K (z1k (d2 neD (z0p z2j [(z0c 3)]) (z0c 1))) (z1k (d2 neD (z0c 2) (z0c 0))))) (z2X (dC (.bl false))) z1M)
 (z0M (z7z 4 (z4d (z0c 1)) (z0M (ifO (z9K (z2G (z1y (z0p z1N [(d2 ixD (z0c 3) (z0c 4))]))) (z9K (z1k (d2 ltI (d2 ixD (z0c 3) (z0c 4)) (dC (.int 0)))) (z1k (d2 geI (d2 ixD (z0c 3) (z0c 4)) (z0p z2j [(z0c 0)]))))) (z2X (dC (.bl false))) z1M)
 (ifO (z1k (d2 ninD (z0c 4) (d2 ixD (z0c 0) (d2 ixD (z0c 3) (z0c 4))))) (z2X (dC (.bl false))) z1M)))
 (z2X (dC (.bl true)))))))
def z0I:List D->Option D:=z3f 2 3 z1a
def g_law:SS->Option Out:=(z0M (asgS 1 (z0p z1z [(z0c 0)]))
 (z0M (asgS 2 (z0p z1P [(z0c 1)]))
 (z0M (z4f 3 (z0p z1G [(z0c 1)]))
 (z0M (forI 4 (dIv1 (z0p z2j [(z0c 3)])) (z0M (y0i 5 (d2 z5M (d2 y0h (z0p z0l [(z0c 0),(z0c 4)]) (dC (.int 7))) (z0p z2j [(d2 ixD (z0c 3) (z0c 4))])))
 (st0N 3 (z0c 4) (z0w (dCat (mkL (dCut (d2 ixD (z0c 3) (z0c 4)) (y0w (z0c 5)) z6v)) (mkL (dCut (d2 ixD (z0c 3) (z0c 4)) z6v (y0w (z0c 5)))))))))
 (z0M (ifO (z2G (z1y (z0p z0J [(z0c 1)]))) (z2X (dC (.bl false))) z1M)
 (z0M (asgS 6 (mkL (z0T (z3Y (mkL (z6L (d2 ixD (z0c 1) (dC (.int 0))) (d1 uNeg (dC (.int 1)))))) z2D (mkL (z6L (z0c 10) (d1 uNeg (dC (.int 1))))))))
 (z0M (frzO 3 (z7z 7 (z3Y (mkL (z0k [(mkL (z0k [(z0c 3),(d2 ixD (z0c 1) (dC (.int 0)))])),(mkL (z0k [(mkL (z6L (z0c 3) (d1 uNeg (dC (.int 1))))),(z0c 6)]))]))) (z0M (z4f 8 (mkL (z0k [(mkL (z0T (z3Y (z0c 2)) z2D (z0w (z1i z2n [(z0c 10)])))),(mkL (z0T (z3Y (d2 ixD (z0c 7) (dC (.int 0)))) z2D (z0w (z1i z2n [(z0c 10)]))))])))
 (z0M (z4f 9 (z6U z4j [(d2 ixD (z0c 8) (dC (.int 0))),(d2 ixD (z0c 8) (dC (.int 1)))]))
 (z0M (ifO (z2G (z1y (z0p z0x [(z0c 9),(d2 ixD (z0c 7) (dC (.int 1)))]))) (z2X (dC (.bl false))) z1M)
 (z0M (m1 9 (dC (.int 0)) clrF [])
 (z0M (clr0 9)
 (z0M (ifO (z1k (d2 neD (z0c 8) (mkL (z0k [(z0c 2),(d2 ixD (z0c 7) (dC (.int 0)))])))) (z2X (dC (.bl false))) z1M)
 (ifO (z2G (z1y (z0p z0I [(d2 ixD (z0c 7) (dC (.int 0))),(z0p z2j [(z0c 2)])]))) (z2X (dC (.bl false))) z1M)))))))))
 (z2X (dC (.bl true))))))))))
def z9L:List D->Option D:=z3f 1 9 g_law
structure Txt(mg:Str->Option Value):Prop where
 gp:mg "all" = none
 gD:mg "any" = none
 eu:mg "range" = none
 d8:mg "len" = none
 gq:mg "int" = none
 eh:mg "isinstance" = none
 fW:mg "bool" = none
 fL:mg "enumerate" = none
 gr:mg "min" = none
 eW:mg "list" = none
 gn:mg "sorted" = none
structure Cls(K:aa)(mg:Str->Option Value)(base:Heap)(cl:Nat->Value):Prop where
 fU:∃C,cl 1 = .ref C∧OwnCls "BadParts" C bmVE "ValueError.__new__" mg base∧aB K mainGlobals "BadParts" = some (some (.ref C))∧True

section
variable{P:dN}{w:dO}{K:aa}{mg:Str->Option Value}{base:Heap}{cl:Nat->Value}
theorem y2l:FnScope y5i z9e (z0f z6u):=z1D
theorem y3D(B:FnB K mg "picked" z6u z9e)(T:Txt mg):DefOk P w K mg base 1 "picked" (spN K z3t):=
 B.on fun F hm hb=>z5h (k:=0) (g:=z5K) F hm hb y2l rfl rfl fun cdv A outer s H E hr=>
  (z0j (z4D (z5q (z4I (N':=["row", "things", "other"])  rfl ⟨rfl,rfl,rfl,rfl,rfl⟩ (n:=2) rfl (z0A (z0h 1 (pv 1))) (fun _ _ _ _ _=>z0m (i:=2) nd0 rfl (Or.inl rfl)) (fun _ _ _ _ _=>z0v) (fun _ _ _ _ _=>(z0q (z0h 0 (pv 0)) (z0h 2 (pv 2))))))))
theorem gv:FnScope gy y7h (z0f y2E):=z1D
theorem gw(B:FnB K mg "part" y2E y7h)(T:Txt mg)(fM:DefOk P w K mg base 1 "picked" (spN K z3t)):DefOk P w K mg base 2 "part" (spN K z8X):=
 B.on fun F hm hb=>z5h (k:=1) (g:=y3W) F hm hb gv rfl rfl fun cdv A outer s H E hr=>
  (z0j (z4D (z1T (N':=["table", "things", "one"])  rfl ⟨rfl,rfl,rfl,rfl,rfl⟩ (n:=2) rfl (z0A (z0h 1 (pv 1))) (fun _ _ _ _ _=>z0m (i:=2) nd1 rfl (Or.inl rfl)) (fun _ _ _ _ _=>z0v) (fun _ _ _ _ _=>(z0o fM (hr.mono (by decide)) rfl (z0a (z0q (z0h 0 (pv 0)) (z0h 2 (pv 2))) (z0a (z0h 1 (pv 1)) z0d)))))))
theorem fF:FnScope z6s z3x (z0f z2m):=z1D
theorem z5f(B:FnB K mg "sees_as_one" z2m z3x)(T:Txt mg):DefOk P w K mg base 1 "sees_as_one" (spN K z1F):=
 B.on fun F hm hb=>z5h (k:=0) (g:=z2w) F hm hb fF rfl rfl fun cdv A outer s H E hr=>
  (z0b (z0V (PAsg.imp (y7Q (i:=3) (N':=["table", "other", "things", "marks", "thing"]) fF.nd rfl rfl rfl ⟨rfl,rfl,rfl,rfl,rfl⟩ (n:=4) rfl (z0A (z0h 2 (pv 2))) (fun _ _ _ _ _=>z0m (i:=4) nd2 rfl (Or.inl rfl)) (fun _ _ _ _ _=>z0v) (fun _ _ _ _ _=>(z0q (z0q (z0h 0 (pv 0)) (z0h 1 (pv 1))) (z0h 4 (pv 4))))) iNF))
   (z0j (z0C (pd_or (y7O rfl rfl T.gp (z0h 3 (pv 3))) (y3I (y3l (pd_any rfl rfl T.gD (z0h 3 (pv 3)))))))))
theorem z9M:FnScope y2V z7e (z0f z4w):=z1D
theorem y0g(B:FnB K mg "parting" z4w z7e)(T:Txt mg)(eX:DefOk P w K mg base 1 "sees_as_one" (spN K z1F)):DefOk P w K mg base 2 "parting" (spN K z3w):=
 B.on fun F hm hb=>z5h (k:=1) (g:=z4T) F hm hb z9M rfl rfl fun cdv A outer s H E hr=>
  (z0j (z4D (z5q (z4I (N':=["table", "things", "other"])  rfl ⟨rfl,rfl,rfl,rfl,rfl⟩ (n:=2) rfl (z2k rfl T.eu (z0K rfl T.d8 (z0h 0 (pv 0)))) (fun _ _ _ _ _=>z0m (i:=2) nd3 rfl (Or.inl rfl)) (fun _ _ _ _ _=>z7p (PW.pt (pw_andD (y6G hr.units (z0h 2 (pv 2)) (z0h 1 (pv 1))) (y5f (z1n (z0F (z7f (z0o eX (hr.mono (by decide)) rfl (z0a (z0h 0 (pv 0)) (z0a (z0h 2 (pv 2)) (z0a (z0h 1 (pv 1)) z0d))))))))))) (fun _ _ _ _ _=>(z0h 2 (pv 2)))))))
theorem z3o:FnScope z3F z2h (z0f z1l):=z1D
theorem z3u(B:FnB K mg "stands_together" z1l z2h)(T:Txt mg)(fJ:DefOk P w K mg base 2 "parting" (spN K z3w)):DefOk P w K mg base 3 "stands_together" (spN K z0D):=
 B.on fun F hm hb=>z5h (k:=2) (g:=z1o) F hm hb z3o rfl rfl fun cdv A outer s H E hr=>
  (z0j (z0C (y5p hr.units (z0K rfl T.d8 (z7f (z0o fJ (hr.mono (by decide)) rfl (z0a (z0h 0 (pv 0)) (z0a (z0h 1 (pv 1)) z0d))))) z0e)))
theorem z7B:FnScope z9J z5w (z0f z3B):=z1D
theorem z7G(B:FnB K mg "is_thing" z3B z5w)(T:Txt mg):DefOk P w K mg base 1 "is_thing" (spN K z2b):=
 B.on fun F hm hb=>z5h (k:=0) (g:=z3y) F hm hb z7B rfl rfl fun cdv A outer s H E hr=>
  (z0j (z0C (y3t (z8R rfl T.gq rfl T.eh (z0h 0 (pv 0))) (y3t (y3l (z4P rfl T.fW rfl T.eh (z0h 0 (pv 0)))) (y3I (y4I op_le op_lt z4n z4n z0e (z0h 0 (pv 0)) (z0h 1 (pv 1))))))))
theorem eE:FnScope z3K z2e (z0f z1s):=z1D
theorem z3q(B:FnB K mg "tells_each_once" z1s z2e)(T:Txt mg)(fG:DefOk P w K mg base 1 "is_thing" (spN K z2b)):DefOk P w K mg base 2 "tells_each_once" (spN K z0y):=
 B.on fun F hm hb=>z5h (k:=1) (g:=z0Q) F hm hb eE rfl rfl fun cdv A outer s H E hr=>
  (z0b (z5t (z8a hr.units (z0K rfl T.d8 (z0h 0 (pv 0))) (z0h 1 (pv 1))) (z0j (z0C z2v)) z1g)
   (z0b (z0V (z1m (i:=2) eE.nd rfl (Or.inl rfl) pn_dnew))
   (z0b (z3Z PassesOwn.never rfl (z0A (z0h 0 (pv 0))) (z0m (i:=3) eE.nd rfl (Or.inl rfl)) (z0b (z5t (PW.pt (z3R (z1n (z0F (z7f (z0o fG (hr.mono (by decide)) rfl (z0a (z0h 3 (pv 3)) (z0a (z0h 1 (pv 1)) z0d)))))) (z3J (pt_din hr.units (z0h 3 (pv 3)) (z0h 2 (pv 2)))))) (z0j (z0C z2v)) z1g)
   (z0j (s_dput hr.units (pv 2) (z0h 3 (pv 3)) z2v))))
   (z0j (z0C z2v)))))
theorem ez:FnScope z7H z3l (z0f z3g):=z1D
theorem z6F(B:FnB K mg "places_of" z3g z3l)(T:Txt mg)(Z:Cls K mg base cl)(eJ:DefOk P w K mg base 2 "tells_each_once" (spN K z0y)):DefX P w K mg base 3 "places_of" (spX K cl z1p):=by
 obtain⟨eI,eV,e9,f7,f8⟩:=Z.fU
 exact B.on fun F hm hb=>⟨_,_,z3l,hm,F.kp,hb,fnX (k:=2) (g:=z2u) F ez rfl rfl fun cdv A outer s H E hr=>
  (z0b (z0V (z1m (i:=2) ez.nd rfl (Or.inl rfl) (z5q (z0X z0d))))
   (z0b (z3Z PassesOwn.leaving rfl (z0A (z0h 0 (pv 0))) (z0m (i:=3) ez.nd rfl (Or.inl rfl)) (z0b (z5t (y0O hr.units (z0K rfl T.d8 (z0h 3 (pv 3))) z0e) (z0j (z6b (c:=1) rfl rfl e9 (z6f eV) y2F)) z1g)
   (z0j (y1f (pv 2) (z0h 3 (pv 3))))))
   (z0b (z5t (z1n (z0F (z7f (z0o eJ (hr.mono (by decide)) rfl (z0a (z0h 2 (pv 2)) (z0a (z0h 1 (pv 1)) z0d)))))) (z0j (z6b (c:=1) rfl rfl e9 (z6f eV) y2F)) z1g)
   (z0b (z0V (z1m (i:=4) ez.nd rfl (Or.inl rfl) (z5q (y6A (z9g (z0X (z0a z0e z0d))) (z0h 1 (pv 1))))))
   (z0b (y6i PassesOwn.leaving rfl (z9r rfl T.fL (z0h 0 (pv 0))) (y4b rfl (z0m (i:=5) ez.nd rfl (Or.inl rfl)) (z0m (i:=3) ez.nd rfl (Or.inl rfl))) (z0j (z3Z PassesOwn.leaving rfl (z0A (z0h 3 (pv 3))) (z0m (i:=6) ez.nd rfl (Or.inl rfl)) (z0j (s_st0 (pv 4) (z0h 6 (pv 6)) (z0h 5 (pv 5)))))))
   (z0j (z8g (pv 4))))))))⟩
theorem y2H:FnScope y4D z6w (z0f z5C):=z1D
theorem y0x(B:FnB K mg "folded" z5C z6w)(T:Txt mg)(Z:Cls K mg base cl)(fX:DefOk P w K mg base 2 "part" (spN K z8X))(eK:DefOk P w K mg base 3 "stands_together" (spN K z0D))(G_places_of:DefX P w K mg base 3 "places_of" (spX K cl z1p)):DefX P w K mg base 4 "folded" (spX K cl z4j):=by
 obtain⟨eI,eV,e9,f7,f8⟩:=Z.fU
 exact B.on fun F hm hb=>⟨_,_,z6w,hm,F.kp,hb,fnX (k:=3) (g:=z5O) F y2H rfl rfl fun cdv A outer s H E hr=>
  (z0b (s_exprX (y2R G_places_of (hr.mono (by decide)) rfl xw_def (z0a (z0h 1 (pv 1)) (z0a (z0K rfl T.d8 (z0h 0 (pv 0))) z0d))))
   (z0b (z5t (z1n (z0F (y7O rfl rfl T.gp (z7f (z1T (N':=["table", "pieces", "piece"])  rfl ⟨rfl,rfl,rfl,rfl,rfl⟩ (n:=2) rfl (z0A (z0h 1 (pv 1))) (fun _ _ _ _ _=>z0m (i:=2) nd4 rfl (Or.inl rfl)) (fun _ _ _ _ _=>z0v) (fun _ _ _ _ _=>(z0o eK (hr.mono (by decide)) rfl (z0a (z0h 0 (pv 0)) (z0a (z0h 2 (pv 2)) z0d))))))))) (z0j (z6b (c:=1) rfl rfl e9 (z6f eV) y2F)) z1g)
   (z0j (z4D (z0o fX (hr.mono (by decide)) rfl (z0a (z0h 0 (pv 0)) (z0a (z9g (z4I (N':=["table", "pieces", "piece"])  rfl ⟨rfl,rfl,rfl,rfl,rfl⟩ (n:=2) rfl (z0A (z0h 1 (pv 1))) (fun _ _ _ _ _=>z0m (i:=2) nd4 rfl (Or.inl rfl)) (fun _ _ _ _ _=>z0v) (fun _ _ _ _ _=>(z0q (z0h 2 (pv 2)) z0e)))) z0d)))))))⟩
theorem z5e:FnScope z6o z3v (z0f z2x):=z1D
theorem z5d(B:FnB K mg "beats_there" z2x z3v)(T:Txt mg):DefOk P w K mg base 1 "beats_there" (spN K z1C):=
 B.on fun F hm hb=>z5h (k:=0) (g:=z1B) F hm hb z5e rfl rfl fun cdv A outer s H E hr=>
  (z0b (z5t (y0O hr.units (z0q (z0h 2 (pv 2)) z0e) (z0q (z0h 3 (pv 3)) z0e)) (z0j (z0C (z0q (z0q (z0q (z0h 1 (pv 1)) (z0q (z0h 2 (pv 2)) z0e)) (z0q (z0h 2 (pv 2)) z0e)) (z0q (z0h 3 (pv 3)) z0e)))) z1g)
   (z0j (z0C (z0q (z0q (z0h 0 (pv 0)) (z0q (z0h 2 (pv 2)) z0e)) (z0q (z0h 3 (pv 3)) z0e)))))
theorem z5F:FnScope z7l z3Q (z0f z2I):=z1D
theorem z6q(B:FnB K mg "joined_row" z2I z3Q)(T:Txt mg)(eY:DefOk P w K mg base 1 "beats_there" (spN K z1C)):DefOk P w K mg base 2 "joined_row" (spN K z1x):=
 B.on fun F hm hb=>z5h (k:=1) (g:=z2K) F hm hb z5F rfl rfl fun cdv A outer s H E hr=>
  (z0j (z4D (z1T (N':=["table", "tables", "one", "homes", "other"])  rfl ⟨rfl,rfl,rfl,rfl,rfl⟩ (n:=4) rfl (z0A (z0h 3 (pv 3))) (fun _ _ _ _ _=>z0m (i:=4) nd5 rfl (Or.inl rfl)) (fun _ _ _ _ _=>z0v) (fun _ _ _ _ _=>(z0o eY (hr.mono (by decide)) rfl (z0a (z0h 0 (pv 0)) (z0a (z0h 1 (pv 1)) (z0a (z0h 2 (pv 2)) (z0a (z0h 4 (pv 4)) z0d)))))))))
theorem fB:FnScope y4L z8x (z0f z5E):=z1D
theorem y2a(B:FnB K mg "joined" z5E z8x)(T:Txt mg)(fg:DefOk P w K mg base 2 "joined_row" (spN K z1x)):DefOk P w K mg base 3 "joined" (spN K z4k):=
 B.on fun F hm hb=>z5h (k:=2) (g:=z5N) F hm hb fB rfl rfl fun cdv A outer s H E hr=>
  (z0b (z0V (z1m (i:=2) fB.nd rfl (Or.inr rfl) (z5q (z0X z0d))))
   (z0b (y6i PassesOwn.never rfl (z9r rfl T.fL (z0h 1 (pv 1))) (y4b rfl (z0m (i:=3) fB.nd rfl (Or.inr rfl)) (z0m (i:=4) fB.nd rfl (Or.inl rfl))) (z0j (y1V (pv 2) (z5q (z4I (N':=["table", "tables", "homes", "place", "inner", "thing"])  rfl ⟨rfl,rfl,rfl,rfl,rfl⟩ (n:=5) rfl (z2k rfl T.eu (z0K rfl T.d8 (z0h 4 (pv 4)))) (fun _ _ _ _ _=>z0m (i:=5) nd7 rfl (Or.inl rfl)) (fun _ _ _ _ _=>z0v) (fun _ _ _ _ _=>(y7c (z0a (z0h 3 (pv 3)) (z0a (z0h 5 (pv 5)) z0d)))))))))
   (z0j (z4D (z1T (N':=["table", "tables", "homes", "place", "inner", "one"])  rfl ⟨rfl,rfl,rfl,rfl,rfl⟩ (n:=5) rfl (z0A (z0h 2 (pv 2))) (fun _ _ _ _ _=>z0m (i:=5) nd6 rfl (Or.inl rfl)) (fun _ _ _ _ _=>z0v) (fun _ _ _ _ _=>(z0o fg (hr.mono (by decide)) rfl (z0a (z0h 0 (pv 0)) (z0a (z0h 1 (pv 1)) (z0a (z0h 5 (pv 5)) (z0a (z0h 2 (pv 2)) z0d)))))))))))
theorem z6k:FnScope z7u z3O (z0f z2M):=z1D
theorem z5W(B:FnB K mg "_law_whole" z2M z3O)(T:Txt mg):DefOk P w K mg base 1 "_law_whole" (spN K z1N):=
 B.on fun F hm hb=>z5h (k:=0) (g:=z2J) F hm hb z6k rfl rfl fun cdv A outer s H E hr=>
  (z0j (z0C (y3t (z8R rfl T.gq rfl T.eh (z0h 0 (pv 0))) (y3I (y3l (z4P rfl T.fW rfl T.eh (z0h 0 (pv 0))))))))
theorem z4t:FnScope z5c z3d (z0f z1W):=z1D
theorem z4Q(B:FnB K mg "_law_cell_at" z1W z3d)(T:Txt mg):DefOk P w K mg base 1 "_law_cell_at" (spN K z0l):=
 B.on fun F hm hb=>z5h (k:=0) (g:=z1w) F hm hb z4t rfl rfl fun cdv A outer s H E hr=>
  (z0b (z5t (pt_lt (z0h 1 (pv 1)) (z0K rfl T.d8 (z0h 0 (pv 0)))) (z0j (z0C (z0q (z0h 0 (pv 0)) (z0h 1 (pv 1))))) z1g)
   (z0j (z0C z0e)))
theorem d9:FnScope z4R z2O (z0f z1K):=z1D
theorem z4e(B:FnB K mg "_law_table_by" z1K z2O)(T:Txt mg):DefOk P w K mg base 1 "_law_table_by" (spN K z0O):=
 B.on fun F hm hb=>z5h (k:=0) (g:=z1I) F hm hb d9 rfl rfl fun cdv A outer s H E hr=>
  (z0b (z0V (y1Q (i:=2) (N':=["cell", "many", "rows", "rest", "one", "other", "k"]) d9.nd rfl rfl rfl ⟨rfl,rfl,rfl,rfl,rfl⟩ (n:=6) rfl (z2k rfl T.eu (z0h 1 (pv 1))) (fun _ _ _ _ _=>z0m (i:=6) nd8 rfl (Or.inl rfl)) (fun _ _ _ _ _=>z0v) (fun _ _ _ _ _=>(z5q (y6A (z9g (z0X (z0a z2v z0d))) (z0h 1 (pv 1)))))))
   (z0b (z3W (z1m (i:=3) d9.nd rfl (Or.inl rfl) (z3s (pd_mul (z0h 0 (pv 0)) z0e) z0e)))
   (z0b (z3Z PassesOwn.never rfl (z2k rfl T.eu (z0h 1 (pv 1))) (z0m (i:=4) d9.nd rfl (Or.inl rfl)) (z0j (z3Z PassesOwn.never rfl (pi_rng2 rfl T.eu (z3N (z0h 4 (pv 4)) z0e) (z0h 1 (pv 1))) (z0m (i:=5) d9.nd rfl (Or.inl rfl)) (z0b (s_st1 (pv 2) (z0h 4 (pv 4)) (z0h 5 (pv 5)) (y5p hr.units (z3s (z0h 3 (pv 3)) z0e) z0e))
   (z0b (s_st1 (pv 2) (z0h 5 (pv 5)) (z0h 4 (pv 4)) (y5p hr.units (z3s (z0h 3 (pv 3)) z0e) z0e))
   (z0j (z3W (z1m (i:=3) d9.nd rfl (Or.inl rfl) (z6O (z0h 3 (pv 3)) z0e)))))))))
   (z0j (z8g (pv 2))))))
theorem d6:FnScope z7i z3T (z0f z2E):=z1D
theorem z5P(B:FnB K mg "_law_mixed" z2E z3T)(T:Txt mg)(G__law_cell_at:DefOk P w K mg base 1 "_law_cell_at" (spN K z0l))(G__law_table_by:DefOk P w K mg base 1 "_law_table_by" (spN K z0O)):DefOk P w K mg base 2 "_law_mixed" (spN K z1z):=
 B.on fun F hm hb=>z5h (k:=1) (g:=z2T) F hm hb d6 rfl rfl fun cdv A outer s H E hr=>
  (z0b (z3W (z1m (i:=1) d6.nd rfl (Or.inl rfl) (z3N z0e (z3s (z7f (z0o G__law_cell_at (hr.mono (by decide)) rfl (z0a (z0h 0 (pv 0)) (z0a z0e z0d)))) z0e))))
   (z0b (z5t (y0O hr.units (z3s (z6O (z7f (z0o G__law_cell_at (hr.mono (by decide)) rfl (z0a (z0h 0 (pv 0)) (z0a z0e z0d)))) z0e) z0e) z0e) (z0j (z3W (z1m (i:=1) d6.nd rfl (Or.inl rfl) (z3N (z0h 1 (pv 1)) z0e)))) z1g)
   (z0b (z0V (z1m (i:=2) d6.nd rfl (Or.inl rfl) (z0o G__law_table_by (hr.mono (by decide)) rfl (z0a (z7f (z0o G__law_cell_at (hr.mono (by decide)) rfl (z0a (z0h 0 (pv 0)) (z0a z0e z0d)))) (z0a (z0h 1 (pv 1)) z0d)))))
   (z0b (z0V (z1m (i:=3) d6.nd rfl (Or.inl rfl) (z5q (z0X z0d))))
   (z0b (z0V (z1m (i:=4) d6.nd rfl (Or.inl rfl) (z5q (z0X z0d))))
   (z0b (y1J PassesOwn.never rfl (z6j rfl T.eu (z0K rfl T.d8 (z0h 2 (pv 2)))) (z0m (i:=5) d6.nd rfl (Or.inl rfl)) (z0b (z0V (z1m (i:=6) d6.nd rfl (Or.inl rfl) (z0o G__law_cell_at (hr.mono (by decide)) rfl (z0a (z0h 0 (pv 0)) (z0a (z3N z0e (z0h 5 (pv 5))) z0d)))))
   (z0b (z3W (z1m (i:=7) d6.nd rfl (Or.inl rfl) (z3N (y6m (y6m z0e (z0K rfl T.d8 (z0h 4 (pv 4)))) (z0K rfl T.d8 (z0h 2 (pv 2)))) (z0h 5 (pv 5)))))
   (z0b (z3W (z1m (i:=8) d6.nd rfl (Or.inl rfl) (z0q (z9g (z0X (z0a z0e (z0a (y3N rfl rfl T.gr z0e (z0h 7 (pv 7))) (z0a (z3N z0e (z3s (z6O (z0h 6 (pv 6)) z0e) (z0h 7 (pv 7)))) z0d))))) (y3N rfl rfl T.gr (z3s (z0h 6 (pv 6)) z0e) z0e))))
   (z0b (z4v (pv 3) (z0o G__law_table_by (hr.mono (by decide)) rfl (z0a (z6O (z0h 6 (pv 6)) z0e) (z0a (z0h 8 (pv 8)) z0d))))
   (z0j (z3Z PassesOwn.never rfl (z2k rfl T.eu (z0h 8 (pv 8))) (z0m (i:=9) d6.nd rfl (Or.inl rfl)) (z0b (z3W (z1m (i:=10) d6.nd rfl (Or.inl rfl) (z3s (z7f (z0o G__law_cell_at (hr.mono (by decide)) rfl (z0a (z0h 0 (pv 0)) (z0a (z3N z0e (z0K rfl T.d8 (z0h 4 (pv 4)))) z0d)))) (z3N (z0K rfl T.d8 (z0h 4 (pv 4))) z0e))))
   (z0j (s_m0 PySem.F.slot_list_insert PySem.F.type_list_insert y2A y1r (pv 4) (z0a (z0h 10 (pv 10)) (z0a (y7c (z0a (z0h 5 (pv 5)) (z0a (z0h 9 (pv 9)) z0d))) z0d))))))))))))
   (z0j (s_ret3 (by decide) (by decide) (by decide) (pv 2) (pv 3) (pv 4)))))))))
theorem z5T:FnScope z7c z3V (z0f z2H):=z1D
theorem z5R(B:FnB K mg "_law_beats" z2H z3V)(T:Txt mg):DefOk P w K mg base 1 "_law_beats" (spN K z1e):=
 B.on fun F hm hb=>z5h (k:=0) (g:=z1S) F hm hb z5T rfl rfl fun cdv A outer s H E hr=>
  (z0b (z5t (y0O hr.units (z0q (z0h 1 (pv 1)) z0e) (z0q (z0h 2 (pv 2)) z0e)) (z0j (z0C (z0q (z0q (z0q (z0q (z0h 0 (pv 0)) z0e) (z0q (z0h 1 (pv 1)) z0e)) (z0q (z0h 1 (pv 1)) z0e)) (z0q (z0h 2 (pv 2)) z0e)))) z1g)
   (z0j (z0C (z0q (z0q (z0q (z0h 0 (pv 0)) z0e) (z0q (z0h 1 (pv 1)) z0e)) (z0q (z0h 2 (pv 2)) z0e)))))
theorem eZ:FnScope z7d z3S (z0f z2Q):=z1D
theorem z6z(B:FnB K mg "_law_table" z2Q z3S)(T:Txt mg)(G__law_beats:DefOk P w K mg base 1 "_law_beats" (spN K z1e)):DefOk P w K mg base 2 "_law_table" (spN K z1P):=
 B.on fun F hm hb=>z5h (k:=1) (g:=z2F) F hm hb eZ rfl rfl fun cdv A outer s H E hr=>
  (z0b (z0V (z1m (i:=1) eZ.nd rfl (Or.inl rfl) (z5q (z0X z0d))))
   (z0b (z3Z PassesOwn.never rfl (z0A (z0q (z0h 0 (pv 0)) z0e)) (z0m (i:=2) eZ.nd rfl (Or.inr rfl)) (z0j (z4v (pv 1) (z1T (N':=["mixed", "rows", "one", "other"])  rfl ⟨rfl,rfl,rfl,rfl,rfl⟩ (n:=3) rfl (z0A (z0q (z0h 0 (pv 0)) z0e)) (fun _ _ _ _ _=>z0m (i:=3) nd9 rfl (Or.inl rfl)) (fun _ _ _ _ _=>z0v) (fun _ _ _ _ _=>(z0o G__law_beats (hr.mono (by decide)) rfl (z0a (z0h 0 (pv 0)) (z0a (z0h 2 (pv 2)) (z0a (z0h 3 (pv 3)) z0d)))))))))
   (z0j (z8g (pv 1)))))
theorem eQ:FnScope z5I z3p (z0f z2s):=z1D
theorem z5i(B:FnB K mg "_law_pieces" z2s z3p)(T:Txt mg):DefOk P w K mg base 1 "_law_pieces" (spN K z1G):=
 B.on fun F hm hb=>z5h (k:=0) (g:=z2r) F hm hb eQ rfl rfl fun cdv A outer s H E hr=>
  (z0b (z0V (z1m (i:=1) eQ.nd rfl (Or.inl rfl) (z5q (z0X z0d))))
   (z0b (y1J PassesOwn.never rfl (z6j rfl T.eu (z0K rfl T.d8 (z0q (z0h 0 (pv 0)) z0e))) (z0m (i:=2) eQ.nd rfl (Or.inr rfl)) (z0j (z4v (pv 1) (z5q (z4I (N':=["mixed", "pieces", "k", "thing"])  rfl ⟨rfl,rfl,rfl,rfl,rfl⟩ (n:=3) rfl (z2k rfl T.eu (z0K rfl T.d8 (z0q (z0h 0 (pv 0)) z0e))) (fun _ _ _ _ _=>z0m (i:=3) nd10 rfl (Or.inl rfl)) (fun _ _ _ _ _=>z7p (y0O hr.units (z0q (z0q (z0q (z0h 0 (pv 0)) z0e) (z0h 3 (pv 3))) z0e) (z0h 2 (pv 2)))) (fun _ _ _ _ _=>(z0h 3 (pv 3))))))))
   (z0j (z8g (pv 1)))))
theorem eG:FnScope z3E z2i (z0f z1u):=z1D
theorem z3r(B:FnB K mg "_law_rows_alike" z1u z2i)(T:Txt mg):DefOk P w K mg base 1 "_law_rows_alike" (spN K z0x):=
 B.on fun F hm hb=>z5h (k:=0) (g:=z1t) F hm hb eG rfl rfl fun cdv A outer s H E hr=>
  (z0b (z5t (PW.pt (z3R (z1n (z0F (z4F rfl T.eW rfl T.eh (z0h 0 (pv 0))))) (z3J (z8a hr.units (z0K rfl T.d8 (z0h 0 (pv 0))) (z0K rfl T.d8 (z0h 1 (pv 1))))))) (z0j (z0C z2v)) z1g)
   (z0b (z3Z PassesOwn.never rfl (z2k rfl T.eu (z0K rfl T.d8 (z0h 1 (pv 1)))) (z0m (i:=2) eG.nd rfl (Or.inl rfl)) (z0b (z5t (PW.pt (z3R (z1n (z0F (z4F rfl T.eW rfl T.eh (z0q (z0h 0 (pv 0)) (z0h 2 (pv 2)))))) (z3J (z8a hr.units (z0K rfl T.d8 (z0q (z0h 0 (pv 0)) (z0h 2 (pv 2)))) (z0K rfl T.d8 (z0q (z0h 1 (pv 1)) (z0h 2 (pv 2)))))))) (z0j (z0C z2v)) z1g)
   (z0j (z3Z PassesOwn.never rfl (z2k rfl T.eu (z0K rfl T.d8 (z0q (z0h 1 (pv 1)) (z0h 2 (pv 2))))) (z0m (i:=3) eG.nd rfl (Or.inl rfl)) (z0j (z5t (PW.pt (z3R (z1n (z0F (z4P rfl T.fW rfl T.eh (z0q (z0q (z0h 0 (pv 0)) (z0h 2 (pv 2))) (z0h 3 (pv 3)))))) (z3J (z8a hr.units (z0q (z0q (z0h 0 (pv 0)) (z0h 2 (pv 2))) (z0h 3 (pv 3))) (z0q (z0q (z0h 1 (pv 1)) (z0h 2 (pv 2))) (z0h 3 (pv 3))))))) (z0j (z0C z2v)) z1g))))))
   (z0j (z0C z2v))))
theorem z4u:FnScope z5g z3e (z0f z1Z):=z1D
theorem z4M(B:FnB K mg "_law_row_due" z1Z z3e)(T:Txt mg)(G__law_beats:DefOk P w K mg base 1 "_law_beats" (spN K z1e)):DefOk P w K mg base 2 "_law_row_due" (spN K z0W):=
 B.on fun F hm hb=>z5h (k:=1) (g:=z1U) F hm hb z4u rfl rfl fun cdv A outer s H E hr=>
  (z0j (z4D (z1T (N':=["mixed", "one", "homes", "other"])  rfl ⟨rfl,rfl,rfl,rfl,rfl⟩ (n:=3) rfl (z0A (z0h 2 (pv 2))) (fun _ _ _ _ _=>z0m (i:=3) nd11 rfl (Or.inl rfl)) (fun _ _ _ _ _=>z0v) (fun _ _ _ _ _=>(z0o G__law_beats (hr.mono (by decide)) rfl (z0a (z0h 0 (pv 0)) (z0a (z0h 1 (pv 1)) (z0a (z0h 3 (pv 3)) z0d))))))))
theorem d7:FnScope z3h z1L (z0f z0Z):=z1D
theorem z2Y(B:FnB K mg "_law_joined_right" z0Z z1L)(T:Txt mg)(fN:DefOk P w K mg base 3 "joined" (spN K z4k))(G__law_rows_alike:DefOk P w K mg base 1 "_law_rows_alike" (spN K z0x))(eS:DefOk P w K mg base 2 "_law_row_due" (spN K z0W)):DefOk P w K mg base 4 "_law_joined_right" (spN K z0J):=
 B.on fun F hm hb=>z5h (k:=3) (g:=z0Y) F hm hb d7 rfl rfl fun cdv A outer s H E hr=>
  (z0b (z0V (z1m (i:=1) d7.nd rfl (Or.inr rfl) (z5q (y0e rfl T.gn (z0q (z0h 0 (pv 0)) z0e)))))
   (z0b (z0V (y1Q (i:=2) (N':=["mixed", "homes", "due", "handed", "inner", "found", "one"]) d7.nd rfl rfl rfl ⟨rfl,rfl,rfl,rfl,rfl⟩ (n:=6) rfl (z0A (z0h 1 (pv 1))) (fun _ _ _ _ _=>z0m (i:=6) nd13 rfl (Or.inl rfl)) (fun _ _ _ _ _=>z0v) (fun _ _ _ _ _=>(z0o eS (hr.mono (by decide)) rfl (z0a (z0h 0 (pv 0)) (z0a (z0h 6 (pv 6)) (z0a (z0h 1 (pv 1)) z0d)))))))
   (z0b (z0V (z1m (i:=3) d7.nd rfl (Or.inl rfl) (y4r (z4o (z1T (N':=["mixed", "homes", "due", "handed", "inner", "found", "row"])  rfl ⟨rfl,rfl,rfl,rfl,rfl⟩ (n:=6) rfl (z0A (z0q (z0h 0 (pv 0)) z0e)) (fun _ _ _ _ _=>z0m (i:=6) nd12 rfl (Or.inl rfl)) (fun _ _ _ _ _=>z0v) (fun _ _ _ _ _=>(z5q (z2L rfl T.eW (z0h 6 (pv 6)))))) (z4o (z5q (z0X z0d)) y1v)))))
   (z0b (z3Z PassesOwn.never rfl (z0A (z0q (z0h 0 (pv 0)) z0e)) (z0m (i:=4) d7.nd rfl (Or.inl rfl)) (z0j (s_app1N (pv 3) z0e (z1T (N':=["mixed", "homes", "due", "handed", "inner", "found", "row"])  rfl ⟨rfl,rfl,rfl,rfl,rfl⟩ (n:=6) rfl (z0A (z0h 4 (pv 4))) (fun _ _ _ _ _=>z0m (i:=6) nd12 rfl (Or.inl rfl)) (fun _ _ _ _ _=>z0v) (fun _ _ _ _ _=>(z5q (z2L rfl T.eW (z0h 6 (pv 6)))))))))
   (z0b (z0V (z1m (i:=5) d7.nd rfl (Or.inl rfl) (z0o fN (hr.mono (by decide)) rfl (z0a (z0q (z0h 3 (pv 3)) z0e) (z0a (z0q (z0h 3 (pv 3)) z0e) z0d)))))
   (z0b (z5t (z1n (z0F (z7f (z0o G__law_rows_alike (hr.mono (by decide)) rfl (z0a (z0h 5 (pv 5)) (z0a (z0h 2 (pv 2)) z0d)))))) (z0j (z0C z2v)) z1g)
   (z0b (z8i (pv 5) z0e)
   (z0b (y4t (pv 5))
   (z0j (z0C (y5p hr.units (z0h 3 (pv 3)) (z9g (z0X (z0a (z0q (z0h 0 (pv 0)) z0e) (z0a (z0q (z0h 0 (pv 0)) z0e) z0d)))))))))))))))
theorem el:FnScope z3k z1H (z0f z1c):=z1D
theorem z3a(B:FnB K mg "_law_places_right" z1c z1H)(T:Txt mg)(Z:Cls K mg base cl)(G_places_of:DefX P w K mg base 3 "places_of" (spX K cl z1p))(fm:DefOk P w K mg base 1 "_law_whole" (spN K z1N)):DefOk P w K mg base 4 "_law_places_right" (spN K z0I):=
 B.on fun F hm hb=>z5h (k:=3) (g:=z1a) F hm hb el rfl rfl fun cdv A outer s H E hr=>
  (z0b (z0V (y1Q (i:=2) (N':=["pieces", "many", "handed", "found", "thing", "piece"]) el.nd rfl rfl rfl ⟨rfl,rfl,rfl,rfl,rfl⟩ (n:=5) rfl (z0A (z0h 0 (pv 0))) (fun _ _ _ _ _=>z0m (i:=5) nd14 rfl (Or.inl rfl)) (fun _ _ _ _ _=>z0v) (fun _ _ _ _ _=>(z5q (z2L rfl T.eW (z0h 5 (pv 5)))))))
   (z0b (z0V (z1m (i:=3) el.nd rfl (Or.inl rfl) (z9b G_places_of (hr.mono (by decide)) rfl (z0a (z0h 2 (pv 2)) (z0a (z0h 1 (pv 1)) z0d)))))
   (z0b (z5t (PW.pt (z3R (z1n (z0F (z4F rfl T.eW rfl T.eh (z0h 3 (pv 3))))) (z3R (z8a hr.units (z0K rfl T.d8 (z0h 3 (pv 3))) (z0h 1 (pv 1))) (z3J (z8a hr.units (z0h 2 (pv 2)) (z0h 0 (pv 0))))))) (z0j (z0C z2v)) z1g)
   (z0b (z3Z PassesOwn.never rfl (z2k rfl T.eu (z0h 1 (pv 1))) (z0m (i:=4) el.nd rfl (Or.inl rfl)) (z0b (z5t (PW.pt (z3R (z1n (z0F (z7f (z0o fm (hr.mono (by decide)) rfl (z0a (z0q (z0h 3 (pv 3)) (z0h 4 (pv 4))) z0d))))) (z3R (pt_lt (z0q (z0h 3 (pv 3)) (z0h 4 (pv 4))) z0e) (z3J (pt_ge (z0q (z0h 3 (pv 3)) (z0h 4 (pv 4))) (z0K rfl T.d8 (z0h 0 (pv 0)))))))) (z0j (z0C z2v)) z1g)
   (z0j (z5t (y6G hr.units (z0h 4 (pv 4)) (z0q (z0h 0 (pv 0)) (z0q (z0h 3 (pv 3)) (z0h 4 (pv 4))))) (z0j (z0C z2v)) z1g))))
   (z0j (z0C z2v))))))
theorem eO:FnScope gC f9 (z0f z6p):=z1D
theorem gz{f:Addr}{fd:dP}(F:Fun K "law" "law" z6p f fd)(T:Txt mg)(Z:Cls K mg base cl)(fO:DefX P w K mg base 4 "folded" (spX K cl z4j))(G__law_cell_at:DefOk P w K mg base 1 "_law_cell_at" (spN K z0l))(fo:DefOk P w K mg base 2 "_law_mixed" (spN K z1z))(fq:DefOk P w K mg base 2 "_law_table" (spN K z1P))(e5:DefOk P w K mg base 1 "_law_pieces" (spN K z1G))(G__law_rows_alike:DefOk P w K mg base 1 "_law_rows_alike" (spN K z0x))(G__law_joined_right:DefOk P w K mg base 4 "_law_joined_right" (spN K z0J))(G__law_places_right:DefOk P w K mg base 4 "_law_places_right" (spN K z0I)):FnOk P w K mg base CX0 5 f fd f9 (spN K z9L) := 
 fnN (k:=4) (g:=g_law) F eO rfl rfl fun cdv A outer s H E hr=>
  (z0b (y2Q (z1m (i:=1) eO.nd rfl (Or.inl rfl) (z7f (z0o fo (hr.mono (by decide)) rfl (z0a (z0h 0 (pv 0)) z0d)))))
   (z0b (y2Q (z1m (i:=2) eO.nd rfl (Or.inl rfl) (z7f (z0o fq (hr.mono (by decide)) rfl (z0a (z0h 1 (pv 1)) z0d)))))
   (z0b (z0V (z1m (i:=3) eO.nd rfl (Or.inl rfl) (z0o e5 (hr.mono (by decide)) rfl (z0a (z0h 1 (pv 1)) z0d))))
   (z0b (y1J PassesOwn.never rfl (z6j rfl T.eu (z0K rfl T.d8 (z0h 3 (pv 3)))) (z0m (i:=4) eO.nd rfl (Or.inl rfl)) (z0b (z3W (z1m (i:=5) eO.nd rfl (Or.inl rfl) (z3s (z6O (z7f (z0o G__law_cell_at (hr.mono (by decide)) rfl (z0a (z0h 0 (pv 0)) (z0a (z0h 4 (pv 4)) z0d)))) z0e) (z0K rfl T.d8 (z0q (z0h 3 (pv 3)) (z0h 4 (pv 4)))))))
   (z0j (s_st0N (pv 3) (z0h 4 (pv 4)) (z5q (pf_cat (z9g (z8Y (z0q (z0h 3 (pv 3)) (z0h 4 (pv 4))) (z8I (z0h 5 (pv 5))) z9q)) (z9g (z8Y (z0q (z0h 3 (pv 3)) (z0h 4 (pv 4))) z9q (z8I (z0h 5 (pv 5)))))))))))
   (z0b (z5t (z1n (z0F (z7f (z0o G__law_joined_right (hr.mono (by decide)) rfl (z0a (z0h 1 (pv 1)) z0d))))) (z0j (z0C z2v)) z1g)
   (z0b (y2Q (PAsg.imp (y7Q (i:=6) (N':=["script", "mixed", "table", "pieces", "k", "cut", "back", "told", "handed", "found", "row"]) eO.nd rfl rfl rfl ⟨rfl,rfl,rfl,rfl,rfl⟩ (n:=10) rfl (z0A (z9g (z7D (z0q (z0h 1 (pv 1)) z0e) (y3b z0e)))) (fun _ _ _ _ _=>z0m (i:=10) nd15 rfl (Or.inl rfl)) (fun _ _ _ _ _=>z0v) (fun _ _ _ _ _=>(z9g (z7D (z0h 10 (pv 10)) (y3b z0e))))) iDF))
   (z0b (s_frz 3 (z3Z PassesOwn.never rfl (z0A (z9g (z0X (z0a (z9g (z0X (z0a (z0h 3 (pv 3)) (z0a (z0q (z0h 1 (pv 1)) z0e) z0d)))) (z0a (z9g (z0X (z0a (z9g (z7D (z0h 3 (pv 3)) (y3b z0e))) (z0a (z0h 6 (pv 6)) z0d)))) z0d))))) (z0m (i:=7) eO.nd rfl (Or.inl rfl)) (z0b (z0V (z1m (i:=8) eO.nd rfl (Or.inl rfl) (y4r (z4o (z1T (N':=["script", "mixed", "table", "pieces", "k", "cut", "back", "told", "handed", "found", "row"])  rfl ⟨rfl,rfl,rfl,rfl,rfl⟩ (n:=10) rfl (z0A (z0h 2 (pv 2))) (fun _ _ _ _ _=>z0m (i:=10) nd15 rfl (Or.inl rfl)) (fun _ _ _ _ _=>z0v) (fun _ _ _ _ _=>(z5q (z2L rfl T.eW (z0h 10 (pv 10)))))) (z4o (z1T (N':=["script", "mixed", "table", "pieces", "k", "cut", "back", "told", "handed", "found", "piece"])  rfl ⟨rfl,rfl,rfl,rfl,rfl⟩ (n:=10) rfl (z0A (z0q (z0h 7 (pv 7)) z0e)) (fun _ _ _ _ _=>z0m (i:=10) nd16 rfl (Or.inl rfl)) (fun _ _ _ _ _=>z0v) (fun _ _ _ _ _=>(z5q (z2L rfl T.eW (z0h 10 (pv 10)))))) y1v)))))
   (z0b (z0V (z1m (i:=9) eO.nd rfl (Or.inl rfl) (z9b fO (hr.mono (by decide)) rfl (z0a (z0q (z0h 8 (pv 8)) z0e) (z0a (z0q (z0h 8 (pv 8)) z0e) z0d)))))
   (z0b (z5t (z1n (z0F (z7f (z0o G__law_rows_alike (hr.mono (by decide)) rfl (z0a (z0h 9 (pv 9)) (z0a (z0q (z0h 7 (pv 7)) z0e) z0d)))))) (z0j (z0C z2v)) z1g)
   (z0b (z8i (pv 9) z0e)
   (z0b (y4t (pv 9))
   (z0b (z5t (z8a hr.units (z0h 8 (pv 8)) (z9g (z0X (z0a (z0h 2 (pv 2)) (z0a (z0q (z0h 7 (pv 7)) z0e) z0d))))) (z0j (z0C z2v)) z1g)
   (z0j (z5t (z1n (z0F (z7f (z0o G__law_places_right (hr.mono (by decide)) rfl (z0a (z0q (z0h 7 (pv 7)) z0e) (z0a (z0K rfl T.d8 (z0h 2 (pv 2))) z0d)))))) (z0j (z0C z2v)) z1g))))))))))
   (z0j (z0C z2v)))))))))
end
theorem all_mk{l:cR}{w:dO}{K:aa}{h:Heap}{mg:Str->Option Value}{fa:Addr}(X:K.In h)(G:h.Ns mainGlobals mg)(hfa:mg "law" = some (.ref fa))
  {f_law:Addr} {od_law an_law:Option Addr} {sl_law:Array (Option Value)} {oc_law kV_law dc_law pm_law cd_law ct_law:Value} {eI:Addr}
  (fY:FnG K "part" y2E) (fP:FnG K "picked" z6u) (eL:FnG K "stands_together" z1l) (fK:FnG K "parting" z4w) (e6:FnG K "sees_as_one" z2m) (fH:FnG K "is_thing" z3B) (eM:FnG K "tells_each_once" z1s) (fD:FnG K "places_of" z3g) (fQ:FnG K "folded" z5C) (fR:FnG K "joined" z5E) (ft:FnG K "joined_row" z2I) (e7:FnG K "beats_there" z2x) (fu:FnG K "_law_whole" z2M) (eT:FnG K "_law_cell_at" z1W) (eP:FnG K "_law_table_by" z1K) (fw:FnG K "_law_mixed" z2E) (fx:FnG K "_law_beats" z2H) (fy:FnG K "_law_table" z2Q) (e8:FnG K "_law_pieces" z2s) (eN:FnG K "_law_rows_alike" z1u) (eU:FnG K "_law_row_due" z1Z) (eB:FnG K "_law_joined_right" z0Z) (eD:FnG K "_law_places_right" z1c)
  (gc:aB K mainGlobals "law" = some (some (.ref f_law))) (gd:K.lookup f_law=some ⟨oc_law,od_law,.func (aZ "law" "law" (z1J z6p) (z1d z6p) (z0f z6p) .none kV_law dc_law pm_law an_law cd_law ct_law),sl_law⟩) (c_law:cy K cd_law "law" = true) (ge:bj K (.ref f_law)=true)
  (ff:aB K mainGlobals "BadParts" = some (some (.ref eI))) (fI:c5 K eI bmVE "ValueError.__new__" = true)
  
  
  (gf:aB K mainGlobals "all" = some none) (gg:aB K mainGlobals "any" = some none) (fV:aB K mainGlobals "range" = some none) (gi:aB K mainGlobals "len" = some none) (gj:aB K mainGlobals "int" = some none) (fA:aB K mainGlobals "isinstance" = some none) (fZ:aB K mainGlobals "bool" = some none) (fE:aB K mainGlobals "enumerate" = some none) (gm:aB K mainGlobals "min" = some none) (f6:aB K mainGlobals "list" = some none) (fS:aB K mainGlobals "sorted" = some none):
  ∃fd:dP,(∀(s:dw) (v:Value),BindsTo s fd ⟨[v],[]⟩ [("script",v)])∧∀base:Heap,K.In base->base.Ns mainGlobals mg->FnOk l.prog w K mg base CX0 5 fa fd ["script"] (y5b K z9L):=by
 have e:=hfa.symm.trans (cD X G gc)
 cases e
 have T:Txt mg:=⟨aM X G gf,aM X G gg,aM X G fV,aM X G gi,aM X G gj,aM X G fA,aM X G fZ,aM X G fE,aM X G gm,aM X G f6,aM X G fS⟩
 have gu:=fun_mk (st:=z6p) gd c_law ge
 have b_law:=gu.binds (ps:=f9) fun _ _ _ _ _ _ us hl=>match us,hl with | [_],_=>rfl
 refine⟨aZ "law" "law" (z1J z6p) (z1d z6p) (z0f z6p) .none kV_law dc_law pm_law an_law cd_law ct_law,fun s v=>.of_eq rfl,fun base KB GB=>?_⟩
 let cl:Nat->Value:=fun n=>match n with | 1=>.ref eI | _=>.none
 have Z:Cls K mg base cl:=⟨⟨eI,rfl,own_mk KB GB ff fI,ff,trivial⟩⟩
 have fM:=y3D (P:=l.prog) (w:=w) (base:=base) (fg2 X G fP) T
 have fX:=gw (P:=l.prog) (w:=w) (base:=base) (fg2 X G fY) T fM
 have eX:=z5f (P:=l.prog) (w:=w) (base:=base) (fg3 X G e6) T
 have fJ:=y0g (P:=l.prog) (w:=w) (base:=base) (fg2 X G fK) T eX
 have eK:=z3u (P:=l.prog) (w:=w) (base:=base) (fg2 X G eL) T fJ
 have fG:=z7G (P:=l.prog) (w:=w) (base:=base) (fg2 X G fH) T
 have eJ:=z3q (P:=l.prog) (w:=w) (base:=base) (fg2 X G eM) T fG
 have G_places_of:=z6F (P:=l.prog) (w:=w) (base:=base) (fg2 X G fD) T Z eJ
 have fO:=y0x (P:=l.prog) (w:=w) (base:=base) (fg2 X G fQ) T Z fX eK G_places_of
 have eY:=z5d (P:=l.prog) (w:=w) (base:=base) (fg4 X G e7) T
 have fg:=z6q (P:=l.prog) (w:=w) (base:=base) (fg4 X G ft) T eY
 have fN:=y2a (P:=l.prog) (w:=w) (base:=base) (fg2 X G fR) T fg
 have fm:=z5W (P:=l.prog) (w:=w) (base:=base) (fg1 X G fu) T
 have G__law_cell_at:=z4Q (P:=l.prog) (w:=w) (base:=base) (fg2 X G eT) T
 have G__law_table_by:=z4e (P:=l.prog) (w:=w) (base:=base) (fg2 X G eP) T
 have fo:=z5P (P:=l.prog) (w:=w) (base:=base) (fg1 X G fw) T G__law_cell_at G__law_table_by
 have G__law_beats:=z5R (P:=l.prog) (w:=w) (base:=base) (fg3 X G fx) T
 have fq:=z6z (P:=l.prog) (w:=w) (base:=base) (fg1 X G fy) T G__law_beats
 have e5:=z5i (P:=l.prog) (w:=w) (base:=base) (fg1 X G e8) T
 have G__law_rows_alike:=z3r (P:=l.prog) (w:=w) (base:=base) (fg2 X G eN) T
 have eS:=z4M (P:=l.prog) (w:=w) (base:=base) (fg3 X G eU) T G__law_beats
 have G__law_joined_right:=z2Y (P:=l.prog) (w:=w) (base:=base) (fg1 X G eB) T fN G__law_rows_alike eS
 have G__law_places_right:=z3a (P:=l.prog) (w:=w) (base:=base) (fg2 X G eD) T Z G_places_of fm
 exact law_of (gz gu T Z fO G__law_cell_at fo fq e5 G__law_rows_alike G__law_joined_right G__law_places_right)
theorem walk{l:cR}{q:dN}{loose:List Str}{XP:(Str->Option Value)->Heap->Prop}{YP:dO->Heap->Prop}{d:DefRec}{K:Params->aa}(hn:l.most=some 63)(hdf:d.params.defaults=[])
  (hlaw:∀ns:List Int,ns.length≤63->z9L [.scr ns]=some (.bl true)) (hY:∀(w:dO) (h:Heap),YP w h->(K w.params).In h)
  (F:∀(w:dO) (mg:Str->Option Value) (fa:Addr) (h:Heap),(K w.params).In h->h.Ns mainGlobals mg->mg d.name=some (.ref fa) →
   ∃fd:dP,(∀(s:dw) (u:Value),BindsTo s fd ⟨[u],[]⟩ [("script",u)])∧∀base:Heap,(K w.params).In base->base.Ns mainGlobals mg->FnOk l.prog w (K w.params) mg base CX0 5 fa fd ["script"] (y5b (K w.params) z9L)):
  PySem.W.WalkO q loose XP YP l.row.toRowW d [] (fun f vs=>PySem.call f vs):=
 L2.walk_of (n:=63) (k:=5) (x := "script") (CX:=fun _=>CX0) (sp:=fun w=>y5b (K w.params) z9L) hn (by decide) hdf ⟨rfl,by decide,by decide⟩ hY F (fun _ _ a ns hl hO hS=>⟨a,ns,rfl,y4X hO hS,hlaw ns hl,fun _=>rfl⟩) fun _ _ _ _ _ z=>z
end Prg

namespace Prg
open PySem L2
open Lean in
local macro_rules
 | `(tactic| simp! only[$xs,*] $[$loc]?)=>do
  let a ←(("y3O y4i ev_C ev_d2 ev_d1 y2f z8y y1q y5W y1d y7K ev_or ev_if z8C z9C y2C z8w y6x y6u z6M z8V ev_is y7z y1e y2U y4e y3x z6W y6L y1i y4s ev_bk ev_ct y3B y4w y0K y2Z y2k y1Z y1x y6p y1j y7s y6N y6M ev_m0 ev_m1 y0v z9w z8P z8W z9d y0E z9n y1H y0M y0H z9z y6q y0S y3q z9A y1A y7a y0L y6b y0o z8p z6H y0t z9B z9f z8F z9p z8v z9I y2r y5O y3C y7m y2O z9u y2q y7C y6r y1g y0X y0F y2Y z8U y1a y7f y7e y4v y5Z y6e y6w y1M y5Y y7p z6C y6Z y2S eo_r1 y2n z8j y0u eo_2 y6d y3u y0Z eo_or y5S y6O y0P z8N z8h y6F y1k y0m y0U y3k y1Y eo_nx eo_rt eo_bk eo_ct y6t y7x y6K y3r y3v y4o y4f y2z y1W y1t y4j y6j eo_in eo_ex z4H y5L y7G y6X y7j z9i y1C y0W y6P y6a y7b y7N y7D y6l y6o y7n y5J y6v y6C y6f y5P eo_r2 eo_r3 z7W y3P y6s y7L y3w y2c y7v y7B ea_lt ea_le ea_gt ea_ge y7P y7k y6J y7F y6T y7g y3J y0R y1D y2J y1K y3S y0I y4d y3U y1S z8k z8T z8J y2o y0y y7i y6W y6U y0J y3m y2i y1b y0Y y2s y0A y3d y6I y5U y6k y4l y0s y2X y5K y6E y1I y1h y3f y0V y0z y0B y1w y6g y5R es_v1 es_v2 y0l y1n y3K y6R z8t z8O z7v z6V z8d y7d y7A y3a y2p eb_bs eb_bn eb_ms eb_mn eb_s0 eb_sS eb_mc y0q eb_rS eb_r0 eb_ca eb_na".splitOn " ").toArray).mapM fun s=>`(Lean.Parser.Tactic.simpLemma| $(mkIdent s.toName):term)
  let b:Syntax.TSepArray [`Lean.Parser.Tactic.simpStar,`Lean.Parser.Tactic.simpErase,`Lean.Parser.Tactic.simpLemma] "," := ⟨(Syntax.TSepArray.ofElems (sep := ",") a).elemsAndSeps⟩
  `(tactic| simp only[$b,*,$xs,*] $[$loc]?)
open Lean in
local macro_rules
 | `(tactic| simp_all! only[$xs,*])=>do
  let a ←(("Int.reduceEq Int.reduceLT Int.reduceLE Int.reduceGT Int.reduceAdd Int.reduceSub Int.reduceMul Int.reduceNeg decide_true decide_false Bool.or_false Bool.false_or Bool.or_true Bool.true_or Bool.and_true Bool.true_and Bool.and_false Bool.false_and Bool.not_true Bool.not_false".splitOn " ").toArray).mapM fun s=>`(Lean.Parser.Tactic.simpLemma| $(mkIdent s.toName):term)
  let b:Syntax.TSepArray [`Lean.Parser.Tactic.simpStar,`Lean.Parser.Tactic.simpErase,`Lean.Parser.Tactic.simpLemma] "," := ⟨(Syntax.TSepArray.ofElems (sep := ",") a).elemsAndSeps⟩
  `(tactic| simp! only[$b,*,$xs,*])
theorem z4U(ns:List Int)(k:Nat):∃c:Int,z0l [.scr ns,.int (k:Int)]=some (.int c):=by
 by_cases h:k<ns.length
 ·refine⟨ns[k],z0U rfl ?_⟩
  have h':decide ((k:Int)<(ns.length:Int))=true:=by simp;omega
  simp! only[z1w,h',at_nat h,z0g]
 ·refine⟨0,z0U rfl ?_⟩
  have h':decide ((k:Int)<(ns.length:Int))=false:=by simp;omega
  simp! only[z1w,h',z0g]

structure Full(m:Nat)(T:List (List Bool)):Prop where
 sq:Sq m T
 own:∀i<m,at2 T i i=false
 two:∀i<m,∀j<m,i≠j->at2 T i j = !at2 T j i
theorem y4p{m i j:Nat}:at2 (ad m (ad m false)) i j=false:=by
 unfold at2
 simp only[bb,bw]
 by_cases h:i<m
 ·simp only[h,if_true,bS,bw]
  by_cases h2:j<m <;> simp[h2]
 ·simp[h]
theorem y2b{T:List (List Bool)}{i j a b:Nat}{v:Bool}(hi:i<T.length)(hj:j<T[i].length):at2 (T.set i (T[i].set j v)) a b=if a=i∧b=j then v else at2 T a b:=by
 unfold at2
 by_cases h:a=i
 ·subst h
  simp only[bb,bi hi,bS,ae hi]
  by_cases h2:b=j
  ·subst h2
   simp[hj]
  ·simp[h2,aE (Ne.symm h2)]
 ·simp only[bb,aE (Ne.symm h)]
  simp[h]
/-! a table filled from the upper half -/
structure Up(m:Nat)(T:List (List Bool))(n n2:Nat):Prop where
 own:∀i<m,at2 T i i=false
 two:∀i j,i<j->j<m->i<n∨(i=n∧j<n2)->at2 T i j = !at2 T j i
theorem up0{m:Nat}:Up m (ad m (ad m false)) 0 0:=⟨fun _ _=>y4p,fun _ _ _ _ h=>by omega⟩
theorem Up.begin{m n:Nat}{T:List (List Bool)}(F:Up m T n 0):Up m T n (n+1):=⟨F.own,fun i j h1 h2 h=>F.two i j h1 h2 (by omega)⟩
theorem Up.row{m n:Nat}{T:List (List Bool)}(F:Up m T n m):Up m T (n+1) 0:=⟨F.own,fun i j h1 h2 h=>F.two i j h1 h2 (by omega)⟩
theorem Up.full{m:Nat}{T:List (List Bool)}(F:Up m T m 0)(sq:Sq m T):Full m T:=⟨sq,F.own,fun i hi j hj hij=>by
 by_cases h:i<j
 ·exact F.two i j h hj (.inl hi)
 ·rw[F.two j i (by omega) hi (.inl hj),Bool.not_not]⟩
theorem Up.next{m n j:Nat}{T:List (List Bool)}{b:Int}(F:Up m T n j)(sq:Sq m T)(hnj:n<j)(hj:j<m)(hb:b=0∨b=1)(h1:n<T.length)(h3:j<(T.set n (T[n].set j (decide (b=0)))).length):
  Up m ((T.set n (T[n].set j (decide (b=0)))).set j ((T.set n (T[n].set j (decide (b=0))))[j].set n (decide (b=1)))) n (j+1):=by
 have h2:j<T[n].length:=by rw[sq.row h1];exact hj
 have sq1:Sq m (T.set n (T[n].set j (decide (b=0)))):=sq.set h1
 have h4:n<(T.set n (T[n].set j (decide (b=0))))[j].length:=by rw[sq1.row h3];omega
 have e:∀x y,at2 ((T.set n (T[n].set j (decide (b=0)))).set j ((T.set n (T[n].set j (decide (b=0))))[j].set n (decide (b=1)))) x y=if x=j∧y=n then decide (b=1)else if x=n∧y=j then decide (b=0)else at2 T x y:=fun x y=>by
  rw[y2b h3 h4,y2b h1 h2]
 refine⟨fun i hi=>?_,fun i k hik hk h=>?_⟩
 ·rw[e,if_neg (by omega),if_neg (by omega)]
  exact F.own i hi
 ·rw[e,e]
  by_cases z:i=n∧k=j
  ·obtain⟨rfl,rfl⟩:=z
   rw[if_neg (by omega),if_pos ⟨rfl,rfl⟩,if_pos ⟨rfl,rfl⟩]
   rcases hb with rfl | rfl <;> rfl
  ·rw[if_neg (by omega),if_neg z,if_neg (by omega),if_neg (by omega)]
   exact F.two i k hik hk (by omega)

theorem tab6{m:Nat}(hm:m≤1000){x0:Option D}{a2 a3 a4 a5:Option D}:z2A (some (z4h 0 m)) (z2l z2D (z0w (dRep (mkL (z0k [dC (.bl false)])) (z0c 1))) [x0,some (.int (m:Int)),a2,a3,a4,a5])=some ((ad m (ad m false)).map z0S):=by
 rw[z5V,z2d (fun _=>z0S (ad m false)) (by simp;omega) fun x hx=>?_]
 ·congr 1
  apply cv <;> simp
 ·have e:(ad m (D.bl false))=(ad m false).map bD:=by rw[dL];rfl
  simp! only[y3e (show m≤1000000 by omega),e,z3H (z1b _)]
  rfl
theorem z5u(c:Int)(m:Nat)(hm:m≤8):hol (z0O [.int c,.int (m:Int)]) fun d=>∃T,d=z0u T∧Full m T:=by
 refine y2x rfl ?_
 have f1:mulI (.int c) (.int 48271)=some (.int (c*48271)):=ea_mul (.inr (by omega))
 obtain⟨r0,f2⟩:∃r0:Int,z5M (.int (c*48271)) (.int 2147483647)=some (.int r0):=⟨_,z3X (by omega)⟩
 have tl:D.lst ((ad m (ad m false)).map z0S)=z0u (ad m (ad m false)):=rfl
 simp! only[z1I,f1,f2,z1O (show m≤1000000 by omega),tab6 (show m≤1000 by omega),tl]
 refine z0E (I:=fun s=>∃(T:List (List Bool)) (o3 o4 o5:Option SD),s=[some (.sh (.int c)),some (.sh (.int (m:Int))),some (.ow (z0u T)),o3,o4,o5]∧Full m T) ?_ ?_
 ·refine z2q (fun n s=>∃(T:List (List Bool)) (a:Int) (o4 o5:Option SD),s=[some (.sh (.int c)),some (.sh (.int (m:Int))),some (.ow (z0u T)),some (.sh (.int a)),o4,o5]∧Sq m T∧Up m T n 0) ?_ ?_ ?_
  ·exact⟨_,r0,none,none,rfl,⟨by simp,by simp⟩,up0⟩
  ·rintro n hn s ⟨T,a,o4,o5,rfl,sq,F⟩
   have hr2:rng2 (some (.int ((n:Int)+1))) (some (.int (m:Int)))=some (z4h ((n:Int)+1) ((m:Int) - ((n:Int)+1)).toNat):=eo_rng2 ⟨by omega,by omega,by omega,by omega⟩
   simp! only[bC,hr2]
   refine z2q (fun n2 s=>∃(T:List (List Bool)) (a:Int) (o5:Option SD),s=[some (.sh (.int c)),some (.sh (.int (m:Int))),some (.ow (z0u T)),some (.sh (.int a)),some (.sh (.int (n:Int))),o5]∧Sq m T∧Up m T n (n+1+n2)) ?_ ?_ ?_
   ·exact⟨T,a,o5,rfl,sq,F.begin⟩
   ·rintro n2 hn2 s ⟨T,a,o5,rfl,sq,F⟩
    obtain⟨j,hj⟩:∃j:Nat,j=n+1+n2:=⟨_,rfl⟩
    have hj':(n:Int)+1+(n2:Int)=(j:Int):=by omega
    have hjm:j<m:=by omega
    rw[←hj]at F
    obtain⟨r,hr3,hb⟩:∃r:Int,z5M (.int a) (.int 2)=some (.int r)∧(r=0∨r=1):=⟨_,z3X (by omega),Int.emod_two_eq _⟩
    obtain⟨b,g2⟩:∃b:Int,y0h (.int a) (.int 2)=some (.int b):=⟨_,z6J ⟨by omega,by omega⟩⟩
    have h1:n<T.length:=by rw[sq.1];exact hn
    have h2:j<T[n].length:=by rw[sq.row h1];exact hjm
    have e1:=z9E (v:=decide (r=0)) h1 h2
    have sq1:Sq m (T.set n (T[n].set j (decide (r=0)))):=sq.set h1
    have h3:j<(T.set n (T[n].set j (decide (r=0)))).length:=by rw[sq1.1];exact hjm
    have h4:n<(T.set n (T[n].set j (decide (r=0))))[j].length:=by rw[sq1.row h3];exact hn
    have e2:=z9E (v:=decide (r=1)) h3 h4
    simp! only[hj',g2,hr3,e1,e2,z0g]
    have F2:=F.next sq (by omega) hjm hb h1 h3
    have ej:n+1+(n2+1)=j+1:=by omega
    rw[ej]
    exact⟨_,_,_,rfl,sq1.set h3,F2⟩
   ·rintro s ⟨T,a,o5,rfl,sq,F⟩
    have hz:n+1+((m:Int) - ((n:Int)+1)).toNat=m:=by omega
    rw[hz]at F
    exact⟨T,_,_,_,rfl,sq,F.row⟩
  ·rintro s ⟨T,a,o4,o5,rfl,sq,F⟩
   exact⟨_,rfl,T,_,_,_,rfl,F.full sq⟩
 ·rintro s ⟨T,o3,o4,o5,rfl,F⟩
  simp! only[z0g]
  exact⟨_,rfl,T,rfl,F⟩

/-! tables in the place of things -/
def prD(z:Nat×Nat):D:=.tup [.int (z.1:Int),.int (z.2:Int)]
def z4a(hs:List (Nat×Nat)):D:=.lst (hs.map prD)
def z0R(Is:List (List (List Bool))):D:=.lst (Is.map z0u)
theorem z7A{hs:List (Nat×Nat)}:z2j [z4a hs]=some (.int (hs.length:Int)):=z6g
structure Part(Is:List (List (List Bool)))(hs:List (Nat×Nat)):Prop where
 inn:∀k,k<Is.length->Full (Is.getD k []).length (Is.getD k [])∧0<(Is.getD k []).length
 mem:∀z,z∈hs↔z.1<Is.length∧z.2<(Is.getD z.1 []).length
 nd:hs.Nodup
structure Mix(O:List (List Bool))(Is:List (List (List Bool)))(hs:List (Nat×Nat)):Prop where
 out:Full O.length O
 pos:0<O.length
 o8:O.length≤8
 len:Is.length=O.length
 prt:Part Is hs
 le:hs.length≤8
theorem z6P{α:Type}{xs:List α}{x d:α}{k:Nat}:(xs++[x]).getD k d=if k<xs.length then xs.getD k d else if k=xs.length then x else d:=by
 by_cases h:k<xs.length
 ·rw[if_pos h]
  simp[bb,aN h]
 ·rw[if_neg h]
  by_cases h2:k=xs.length
  ·subst h2
   simp[bb]
  ·rw[if_neg h2]
   have:(xs++[x])[k]? = none:=by rw[List.getElem?_eq_none_iff];simp;omega
   simp[bb,this]
theorem y4T(ns:List Int):hol (z1z [.scr ns]) fun d=>∃O Is hs,d = .lst [z0u O,z0R Is,z4a hs]∧Mix O Is hs:=by
 refine y2x rfl ?_
 obtain⟨c0,e0⟩:=z4U ns 0
 have e0:z0l [.scr ns,.int 0]=some (.int c0):=e0
 obtain⟨c1,e1⟩:=z4U ns 1
 have e1:z0l [.scr ns,.int 1]=some (.int c1):=e1
 obtain⟨k,ek,hk⟩:=z4V (x:=c0) (n:=4) (by omega)
 have f1:z5M (.int c0) (.int 4)=some (.int (k:Int)):=by rw[z3X (by omega)];exact congrArg _ (congrArg _ ek)
 have f2:y0h (.int c0) (.int 4)=some (.int (c0 / 4)):=z6J ⟨by omega,by omega⟩
 obtain⟨r,f3⟩:∃r:Int,z5M (.int (c0 / 4)) (.int 4)=some (.int r):=⟨_,z3X (by omega)⟩
 have nil1:D.lst []=z0R []:=rfl
 simp! only[z2T,e0,f1,f2,f3]
 refine z0E (I:=fun s=>∃m:Nat,s=[some (.sh (.scr ns)),some (.sh (.int (m:Int))),none,none,none,none,none,none,none,none,none]∧0<m∧m≤8) ?_ ?_
 ·by_cases hr:r=1
  ·simp! only[hr,decide_true,z0g]
   exact⟨_,rfl,1+k+4,by congr 3,by omega,by omega⟩
  ·simp! only[decide_eq_false hr,z0g]
   exact⟨_,rfl,1+k,by congr 3,by omega,by omega⟩
 rintro s ⟨m,rfl,h0,h8⟩
 obtain⟨_,e2,O,rfl,F⟩:=z5u c1 m h8
 have hO:O.length=m:=F.sq.1
 simp! only[e1,e2,z2V,z2S,hO,z7O (show m≤1000000 by omega)]
 refine z0E (I:=fun s=>∃(Is:List (List (List Bool))) (hs:List (Nat×Nat)) (o5 o6 o7 o8 o9 o10:Option SD),s=[some (.sh (.scr ns)),some (.sh (.int (m:Int))),some (.ow (z0u O)),some (.ow (z0R Is)),some (.ow (z4a hs)),o5,o6,o7,o8,o9,o10]∧Is.length=m∧Part Is hs∧hs.length≤8) ?_ ?_
 ·refine z2q (fun n s=>∃(Is:List (List (List Bool))) (hs:List (Nat×Nat)) (o5 o6 o7 o8 o9 o10:Option SD),s=[some (.sh (.scr ns)),some (.sh (.int (m:Int))),some (.ow (z0u O)),some (.ow (z0R Is)),some (.ow (z4a hs)),o5,o6,o7,o8,o9,o10]∧Is.length=n∧Part Is hs∧hs.length+m≤8+n) ?_ ?_ ?_
  ·exact⟨[],[],none,none,none,none,none,none,rfl,rfl,⟨fun k h=>absurd h (by simp),fun z=>by simp,aY⟩,by simpa using h8⟩
  ·rintro n hn s ⟨Is,hs,o5,o6,o7,o8,o9,o10,rfl,hI,P,hl⟩
   obtain⟨c,ec⟩:=z4U ns (2+n)
   have ec:z0l [.scr ns,.int (2+(n:Int))]=some (.int c):=by rw[←ec];congr 3
   obtain⟨most,hmost⟩:∃most:Nat,(9:Int) - (hs.length:Int) - (m:Int)+(n:Int)=(most:Int):=⟨9+n - hs.length - m,by omega⟩
   have hm1:0<most:=by omega
   have hm8:most+hs.length+m=9+n:=by omega
   obtain⟨j4,ej4,hj4⟩:=z4V (x:=c) (n:=4) (by omega)
   have g1:z5M (.int c) (.int 4)=some (.int (j4:Int)):=by rw[z3X (by omega)];exact congrArg _ (congrArg _ ej4)
   have g2:y0h (.int c) (.int 4)=some (.int (c / 4)):=z6J ⟨by omega,by omega⟩
   obtain⟨jm,ejm,hjm⟩:=z4V (x:=c / 4) (n:=most) (by omega)
   have g3:z5M (.int (c / 4)) (.int (most:Int))=some (.int (jm:Int)):=by rw[z3X (by omega),ejm]
   have g4:y0h (.int c) (.int 32)=some (.int (c / 32)):=z6J ⟨by omega,by omega⟩
   obtain⟨sz,esz,hs1,hs2⟩:∃sz:Nat,atI [D.int 1,.int (if(most:Int)<3 then(most:Int)else 3),.int (1+(jm:Int))] (if(2:Int)<(j4:Int)then 2 else(j4:Int))=some (.int (sz:Int))∧0<sz∧sz≤most:=by
    have:j4=0∨j4=1∨j4=2∨j4=3:=by omega
    rcases this with rfl | rfl | rfl | rfl
    ·exact⟨1,rfl,by omega,by omega⟩
    ·by_cases h3:(most:Int)<3
     ·exact⟨most,by rw[if_pos h3];rfl,by omega,by omega⟩
     ·exact⟨3,by rw[if_neg h3];rfl,by omega,by omega⟩
    ·exact⟨1+jm,rfl,by omega,by omega⟩
    ·exact⟨1+jm,rfl,by omega,by omega⟩
   obtain⟨_,e3,T,rfl,FT⟩:=z5u (c / 32) sz (by omega)
   have hT:T.length=sz:=FT.sq.1
   have ap:m0V z8H (some (z0R Is)) (some [z0u T])=some (z0R (Is++[T])):=z6r (by omega)
   simp! only[bC,ec,z7A,z2S,hO,hmost,g1,g2,g3,g4,ea_min,esz,e3,ap,z1O (show sz≤1000000 by omega)]
   refine z2q (fun a s=>∃(hs':List (Nat×Nat)) (o9 o10:Option SD),s=[some (.sh (.scr ns)),some (.sh (.int (m:Int))),some (.ow (z0u O)),some (.ow (z0R (Is++[T]))),some (.ow (z4a hs')),some (.sh (.int (n:Int))),some (.ow (.int c)),some (.sh (.int (most:Int))),some (.sh (.int (sz:Int))),o9,o10]∧hs'.length=hs.length+a∧hs'.Nodup∧∀z,z∈hs'↔z∈hs∨(z.1=n∧z.2<a)) ?_ ?_ ?_
   ·exact⟨hs,_,_,rfl,rfl,P.nd,fun z=>by simp⟩
   ·rintro a ha s ⟨hs',o9,o10,rfl,hl',nd',mem'⟩
    obtain⟨c6,ec6⟩:=z4U ns (6+hs'.length)
    have ec6:z0l [.scr ns,.int (6+(hs'.length:Int))]=some (.int c6):=by rw[←ec6];congr 3
    obtain⟨t,et,ht⟩:=z4V (x:=c6) (n:=hs'.length+1) (by omega)
    have et:c6 % ((hs'.length:Int)+1)=(t:Int):=et
    have m1:z5M (.int c6) (.int ((hs'.length:Int)+1))=some (.int (t:Int)):=by rw[z3X (show(0:Int)<(hs'.length:Int)+1 by omega),et]
    have pe:D.tup [.int (n:Int),.int (a:Int)]=prD (n,a):=rfl
    have im:z7q (some [.int (t:Int),prD (n,a)])=some [.int (t:Int),prD (n,a)]:=y5I rfl
    have iv:m0V y2y (some (z4a hs')) (some [.int (t:Int),prD (n,a)])=some (z4a (hs'.take t++(n,a)::hs'.drop t)):=y5k (by omega) (by omega)
    have pm:(hs'.take t++(n,a)::hs'.drop t).Perm ((n,a)::hs'):=by
     refine List.perm_middle.trans ?_
     rw[cC]
    have hno:(n,a)∉hs':=fun h=>by
     rcases (mem' _).mp h with h | h
     ·have:=((P.mem _).mp h).1
      simp only at this
      omega
     ·simp only at h
      omega
    simp! only[bC,z7A,ec6,m1,pe,im,iv,z0g]
    refine⟨_,_,_,rfl,?_,?_,fun z=>?_⟩
    ·rw[pm.length_eq,bv];omega
    ·exact pm.nodup_iff.mpr (am.mpr ⟨hno,nd'⟩)
    ·rw[pm.mem_iff,aq,mem' z]
     constructor
     ·rintro (h | h | h)
      ·subst h;exact .inr ⟨rfl,by simp⟩
      ·exact .inl h
      ·exact .inr ⟨h.1,by omega⟩
     ·rintro (h | h)
      ·exact .inr (.inl h)
      ·by_cases hz:z.2<a
       ·exact .inr (.inr ⟨h.1,hz⟩)
       ·exact .inl (Prod.ext h.1 (by show z.2=a;omega))
   ·rintro s ⟨hs',o9,o10,rfl,hl',nd',mem'⟩
    refine⟨_,_,_,_,_,_,_,_,rfl,by simp[hI],⟨fun k hk=>?_,fun z=>?_,nd'⟩,by omega⟩
    ·rw[z6P]
     rw[av,bG]at hk
     by_cases h:k<Is.length
     ·rw[if_pos h];exact P.inn k h
     ·rw[if_neg h,if_pos (by omega),hT];exact⟨FT,hs1⟩
    ·rw[mem' z,P.mem z,z6P,av,bG]
     by_cases h:z.1<Is.length
     ·rw[if_pos h]
      constructor
      ·rintro (q | q)
       ·exact⟨by omega,q.2⟩
       ·omega
      ·rintro q
       exact .inl ⟨h,q.2⟩
     ·rw[if_neg h]
      by_cases h2:z.1=Is.length
      ·rw[if_pos h2,hT]
       constructor
       ·rintro (q | q)
        ·omega
        ·exact⟨by omega,q.2⟩
       ·rintro q
        exact .inr ⟨by omega,q.2⟩
      ·constructor
       ·rintro (q | q) <;> omega
       ·rintro q;omega
  ·rintro s ⟨Is,hs,o5,o6,o7,o8,o9,o10,rfl,hI,P,hl⟩
   exact⟨_,rfl,Is,hs,_,_,_,_,_,_,rfl,hI,P,by omega⟩
 ·rintro s ⟨Is,hs,o5,o6,o7,o8,o9,o10,rfl,hI,P,hl⟩
  simp! only[z0g]
  exact⟨_,rfl,O,Is,hs,rfl,⟨by rw[hO];exact F,by omega,by omega,by omega,P,hl⟩⟩

/-! the table of all these things,and its pieces -/
def z4i(O:List (List Bool))(Is:List (List (List Bool)))(hs:List (Nat×Nat)):D:=.lst [z0u O,z0R Is,z4a hs]
theorem y1R{O:List (List Bool)}{Is:List (List (List Bool))}{hs:List (Nat×Nat)}:ixD (z4i O Is hs) (.int 0)=some (z0u O):=(rfl)
theorem mix_1{O:List (List Bool)}{Is:List (List (List Bool))}{hs:List (Nat×Nat)}:ixD (z4i O Is hs) (.int 1)=some (z0R Is):=(rfl)
theorem y3A{O:List (List Bool)}{Is:List (List (List Bool))}{hs:List (Nat×Nat)}:ixD (z4i O Is hs) (.int 2)=some (z4a hs):=(rfl)
theorem pr_0{z:Nat×Nat}:ixD (prD z) (.int 0)=some (.int (z.1:Int)):=(rfl)
theorem pr_1{z:Nat×Nat}:ixD (prD z) (.int 1)=some (.int (z.2:Int)):=(rfl)
def mb(O:List (List Bool))(Is:List (List (List Bool)))(a b:Nat×Nat):Bool:=if a.1=b.1 then at2 (Is.getD a.1 []) a.2 b.2 else at2 O a.1 b.1
def z5a(O:List (List Bool))(Is:List (List (List Bool)))(hs:List (Nat×Nat)):List (List Bool):=hs.map fun a=>hs.map fun b=>mb O Is a b
section
variable{O:List (List Bool)}{Is:List (List (List Bool))}{hs:List (Nat×Nat)}
theorem z8e(M:Mix O Is hs){a b:Nat×Nat}(ha:a∈hs)(hb:b∈hs):z1e [z4i O Is hs,prD a,prD b]=some (.bl (mb O Is a b)):=by
 refine z0U rfl ?_
 obtain⟨a1,a2⟩:=(M.prt.mem a).mp ha
 obtain⟨b1,b2⟩:=(M.prt.mem b).mp hb
 by_cases h:a.1=b.1
 ·have hd:decide ((a.1:Int)=(b.1:Int))=true:=by simp[h]
  have i1:ixD (z0R Is) (.int (a.1:Int))=some (z0u (Is.getD a.1 [])):=z2R a1
  have i2:=ix2 (M.prt.inn a.1 a1).1.sq a2 (j:=b.2) (by rw[h];exact b2)
  simp! only[z1S,pr_0,pr_1,hd,mix_1,i1,i2,z0g]
  unfold mb
  rw[if_pos h]
 ·have hd:decide ((a.1:Int)=(b.1:Int))=false:=by simp;omega
  have i2:=ix2 M.out.sq (i:=a.1) (j:=b.1) (by rw[←M.len];exact a1) (by rw[←M.len];exact b1)
  simp! only[z1S,pr_0,pr_1,hd,y1R,i2,z0g]
  unfold mb
  rw[if_neg h]
theorem z3L:z5b (z4a hs)=some (hs.map prD):=(rfl)
theorem y2W(M:Mix O Is hs):z1P [z4i O Is hs]=some (z0u (z5a O Is hs)):=by
 refine z0U rfl ?_
 simp! only[z2F,z2V,y3A,z3L]
 refine z0E (I:=fun s=>∃o2,s=[some (.sh (z4i O Is hs)),some (.ow (z0u (z5a O Is hs))),o2]) ?_ ?_
 ·refine z4N (fun pre s=>∃o2,s=[some (.sh (z4i O Is hs)),some (.ow (z0u (pre.map fun a=>hs.map fun b=>mb O Is a b))),o2]) ⟨_,rfl⟩ ?_ fun s z=>⟨s,rfl,z⟩
  rintro pre a post e s ⟨o2,rfl⟩
  have ha:a∈hs:=by rw[e];simp
  have hpl:pre.length≤8:=by
   have:=M.le
   rw[e]at this
   simp at this
   omega
  simp! only[y3A,z3L]
  rw[z2d (enc:=prD) (xs:=hs) (fun b=>bD (mb O Is a b)) (by have:=M.le;omega) fun b hb=>by simp! only[z8e M ha hb,bD]]
  have er:D.lst (hs.map fun b=>bD (mb O Is a b))=z0S (hs.map fun b=>mb O Is a b):=by unfold z0S;rw[aJ];rfl
  have ap:m0V z8H (some (z0u (pre.map fun a=>hs.map fun b=>mb O Is a b))) (some [z0S (hs.map fun b=>mb O Is a b)])=some (z0u ((pre.map fun a=>hs.map fun b=>mb O Is a b)++[hs.map fun b=>mb O Is a b])):=z6r (by simp;omega)
  simp! only[er,ap,z0g]
  exact⟨_,by rw[aT];rfl⟩
 ·rintro s ⟨o2,rfl⟩
  simp! only[z0g]
theorem z4B{i j:Nat}(hi:i<hs.length)(hj:j<hs.length):at2 (z5a O Is hs) i j=mb O Is hs[i] hs[j]:=by
 unfold at2 z5a
 rw[z9j hi,z9j hj]
theorem z7T:Sq hs.length (z5a O Is hs):=by
 refine⟨by simp[z5a],fun r hr=>?_⟩
 obtain⟨i,_,rfl⟩:=bc.mp hr
 simp
theorem y1T(M:Mix O Is hs):Full hs.length (z5a O Is hs):=by
 refine⟨z7T,fun i hi=>?_,fun i hi j hj hij=>?_⟩
 ·rw[z4B hi hi]
  unfold mb
  rw[if_pos rfl]
  obtain⟨a1,a2⟩:=(M.prt.mem hs[i]).mp (aU hi)
  exact(M.prt.inn _ a1).1.own _ a2
 ·rw[z4B hi hj,z4B hj hi]
  obtain⟨a1,a2⟩:=(M.prt.mem hs[i]).mp (aU hi)
  obtain⟨b1,b2⟩:=(M.prt.mem hs[j]).mp (aU hj)
  have hne:hs[i]≠hs[j]:=fun h=>hij ((cu M.prt.nd).mp h)
  unfold mb
  by_cases h:hs[i].1=hs[j].1
  ·rw[if_pos h,if_pos h.symm,←h]
   rw[←h]at b2
   exact(M.prt.inn _ a1).1.two _ a2 _ b2 fun e=>hne (Prod.ext h e)
  ·rw[if_neg h,if_neg (Ne.symm h)]
   exact M.out.two _ (by rw[←M.len];exact a1) _ (by rw[←M.len];exact b1) h
theorem y7H(M:Mix O Is hs):0<hs.length:=by
 have h0:0<Is.length:=by rw[M.len];exact M.pos
 have:((0,0):Nat×Nat)∈hs:=(M.prt.mem _).mpr ⟨h0,(M.prt.inn 0 h0).2⟩
 exact List.length_pos_of_mem this
def llD(L:List (List Nat)):D:=.lst (L.map thD)
def pc(hs:List (Nat×Nat))(k:Nat):List Nat:=(ar hs.length).filter fun t=>decide ((hs.getD t (0,0)).1=k)
def pcs(n:Nat)(hs:List (Nat×Nat)):List (List Nat):=(ar n).map (pc hs)
theorem y1m(M:Mix O Is hs):z1G [z4i O Is hs]=some (llD (pcs O.length hs)):=by
 refine z0U rfl ?_
 have h8:=M.o8
 simp! only[z2r,z2V,y1R,z2S,z7O (show O.length≤1000000 by omega)]
 refine z0E (I:=fun s=>∃o2,s=[some (.sh (z4i O Is hs)),some (.ow (llD (pcs O.length hs))),o2]) ?_ ?_
 ·refine z2q (fun n s=>∃o2,s=[some (.sh (z4i O Is hs)),some (.ow (llD (pcs n hs))),o2]) ⟨_,rfl⟩ ?_ fun s z=>⟨s,rfl,z⟩
  rintro n hn s ⟨o2,rfl⟩
  simp! only[bC,y3A,z7A,z1O (show hs.length≤1000000 by have:=M.le;omega)]
  rw[z5V,cx_of (enc:=nD) (xs:=ar hs.length) (fun t=>decide ((hs.getD t (0,0)).1=n)) nD (by have:=M.le;simp;omega) (fun t ht=>by
   have i1:ixD (z4a hs) (.int (t:Int))=some (prD (hs.getD t (0,0))):=z2R (aD.mp ht)
   have hd:decide (((hs.getD t (0,0)).1:Int)=(n:Int))=decide ((hs.getD t (0,0)).1=n):=decide_eq_decide.mpr (by omega)
   simp! only[nD,y3A,i1,pr_0,hd]) fun t ht _=>by simp! only[nD]]
  have ap:m0V z8H (some (llD (pcs n hs))) (some [thD (pc hs n)])=some (llD (pcs n hs++[pc hs n])):=z6r (by simp[pcs];omega)
  have ef:z4O (some (((ar hs.length).filter fun t=>decide ((hs.getD t (0,0)).1=n)).map nD))=some ((pc hs n).map nD):=z3D _
  have et:D.lst ((pc hs n).map nD)=thD (pc hs n):=rfl
  simp! only[ef,et,ap,z0g]
  exact⟨_,by
   unfold pcs
   rw[List.range_succ,aT]
   rfl⟩
 ·rintro s ⟨o2,rfl⟩
  simp! only[z0g]
end

/-! what stands together -/
def z7N(T:List (List Bool))(o:Nat)(th:List Nat):Bool:=(th.all fun j=>at2 T o j) || !(th.any fun j=>at2 T o j)
def brk(T:List (List Bool))(o:Nat)(th:List Nat):Bool:=!th.contains o && !z7N T o th
def prt(T:List (List Bool))(m:Nat)(th:List Nat):List Nat:=(ar m).filter fun o=>brk T o th
def y0j(T:List (List Bool))(m:Nat)(th:List Nat):Bool:=(ar m).all fun o=>!brk T o th
section
variable{T:List (List Bool)}{m:Nat}{th:List Nat}
theorem sees_eq(sq:Sq m T)(hm:m≤900){o:Nat}(ho:o<m)(hl:th.length≤900)(h:∀x∈th,x<m):z1F [z0u T,.int (o:Int),thD th]=some (.bl (z7N T o th)):=by
 refine z0U rfl ?_
 simp! only[z2w,y2G]
 rw[z2d (fun j=>bD (at2 T o j)) (by omega) fun j hj=>by simp! only[nD,ix2 sq ho (h j hj),bD]]
 have e:(th.map fun j=>bD (at2 T o j))=(th.map fun j=>at2 T o j).map bD:=by rw[aJ];rfl
 have e2:((th.map fun j=>at2 T o j).all fun b=>b)=th.all fun j=>at2 T o j:=by rw[List.all_map];rfl
 have e3:((th.map fun j=>at2 T o j).any fun b=>b)=th.any fun j=>at2 T o j:=by rw[cw];rfl
 simp! only[e,z3H (z1b _),y6S,ea_any,e2,e3,z0g]
 unfold z7N
 cases (th.all fun j=>at2 T o j) <;> simp! only[z0g,Bool.false_or,Bool.true_or]
theorem z9V(sq:Sq m T)(hm:m≤900)(hl:th.length≤900)(h:∀x∈th,x<m):z3w [z0u T,thD th]=some (thD (prt T m th)):=by
 refine z0U rfl ?_
 simp! only[z4T,z2S,sq.1,z1O (show m≤1000000 by omega)]
 rw[z5V,cx_of (enc:=nD) (xs:=ar m) (fun o=>brk T o th) nD (by simp;omega) (fun o ho=>by
  have ho:=aD.mp ho
  simp! only[nD,y3V,sees_eq sq hm ho hl h]
  unfold brk
  cases th.contains o <;> cases z7N T o th <;> simp! only[Bool.not_true,Bool.not_false,Bool.and_true,da,cG,Bool.true_and,bz]) fun o _ _=>by simp! only[nD]]
 simp! only[z3D,z0g]
 rfl
end

section
variable{T:List (List Bool)}{m:Nat}{th:List Nat}
theorem stog_eq(sq:Sq m T)(hm:m≤900)(hl:th.length≤900)(h:∀x∈th,x<m):z0D [z0u T,thD th]=some (.bl (y0j T m th)):=by
 refine z0U rfl ?_
 simp! only[z1o,z9V sq hm hl h,z8K,z0g]
 congr 2
 unfold y0j prt
 by_cases e:((ar m).all fun o=>!brk T o th)=true
 ·rw[e]
  have:(ar m).filter (fun o=>brk T o th)=[]:=by
   rw[di]
   intro o ho hb
   have:=aK.mp e o ho
   rw[hb]at this
   cases this
  rw[this]
  rfl
 ·rw[bV]at e
  rw[e]
  apply decide_eq_false
  intro z
  have z':((ar m).filter fun o=>brk T o th)=[]:=List.eq_nil_of_length_eq_zero (by omega)
  rw[di]at z'
  have:((ar m).all fun o=>!brk T o th)=true:=aK.mpr fun o ho=>by
   have:=z' o ho
   simpa using this
  rw[this]at e
  cases e
end

theorem y3G{r:List Bool}{th:List Nat}(hl:th.length≤1000)(h:∀x∈th,x<r.length):z3t [z0S r,thD th]=some (z0S (th.map fun j=>r.getD j false)):=by
 refine z0U rfl ?_
 have hl':(th.map nD).length≤1000000:=by rw[ah];omega
 have hc:z1V (z2l z2D (d2 ixD (z0c 0) (z0c 2)) [some (z0S r),some (thD th)]) (th.map nD)=some ((th.map fun j=>r.getD j false).map bD):=by
  rw[aJ]
  exact z2f (fun j:Nat=>bD (r.getD j false)) fun j hj=>by simp! only[nD,y1F (h j hj),bD]
 have fl:=z3H (z1b (th.map fun j=>r.getD j false))
 simp! only[z5K,y2G,z3A hl',hc,fl,z0g]
 rfl
theorem part_eq{n:Nat}{T:List (List Bool)}(sq:Sq n T){th:List Nat}(hl:th.length≤1000)(h:∀x∈th,x<n):z8X [z0u T,thD th]=some (z0u (z6y th (at2 T))):=by
 refine z0U rfl ?_
 have hl':(th.map nD).length≤1000000:=by rw[ah];omega
 have hc:z1V (z2l z2D (z0p z3t [d2 ixD (z0c 0) (z0c 2),z0c 1]) [some (z0u T),some (thD th)]) (th.map nD)=some ((z6y th (at2 T)).map z0S):=by
  unfold z6y
  rw[aJ]
  exact z2f (fun i:Nat=>z0S (th.map fun j=>at2 T i j)) fun i hi=>by
   have p:=y3G (r:=T.getD i []) (th:=th) hl (fun x hx=>by rw[sq.len (h i hi)];exact h x hx)
   simp! only[nD,y1P (show i<T.length by rw[sq.1];exact h i hi),p]
   rfl
 simp! only[y3W,y2G,z3A hl',hc,z0g]
 rfl

theorem y4Y(x:Int)(m:Nat):z2b [.int x,.int (m:Int)]=some (.bl (decide (0≤x)&&decide (x<(m:Int)))):=by
 refine z0U rfl ?_
 have c:chO leI ltI (some (.int 0)) (some (.int x)) (some (.int (m:Int)))=some (.bl (decide (0≤x)&&decide (x<(m:Int)))):=y5z ea_le ea_lt
 simp_all! only[z3y,c,z0g]
/-- the things told ahead are p: the rest tells things,none of them twice -/
def tk(m:Nat):List Int->List Int->Bool
 |_,[]=>true
 |p,x::r=>((decide (0≤x)&&decide (x<(m:Int))) && !p.contains x)&&tk m (p++[x]) r
theorem y2K{m:Nat}:∀{o p:List Int},(∀x∈o,0≤x∧x<(m:Int))->o.Nodup->(∀x∈o,x∉p)->tk m p o=true
 |[],_,_,_,_=>rfl
 |x::r,p,h1,h2,h3=>by
  have hx:=h1 x ag
  have nd:=am.mp h2
  have hp:=h3 x ag
  have ih:=y2K (m:=m) (o:=r) (p:=p++[x]) (fun y hy=>h1 y (ac _ hy)) nd.2 fun y hy z=>by
   rcases aw.mp z with z | z
   ·exact h3 y (ac _ hy) z
   ·rw[aS]at z;exact nd.1 (z ▸ hy)
  show(((decide (0≤x)&&decide (x<(m:Int))) && !p.contains x)&&tk m (p++[x]) r)=true
  have hc:p.contains x=false:=by rw[←bV,bq];exact hp
  rw[ih,hc,decide_eq_true hx.1,decide_eq_true hx.2]
  rfl
def z8n(m:Nat)(o:List Int):Bool:=decide ((o.length:Int)=(m:Int))&&tk m [] o
theorem z9k{p:List Int}{x:Int}:inK (.int x) (z6N p)=some (p.contains x):=by
 show some (z9h (p.map Sum.inl) (.inl x))=_
 congr 1
 unfold z9h
 rw[cw,dc]
 congr 1
 funext y
 show decide ((Sum.inl y:Key)=Sum.inl x)=(x==y)
 by_cases h:y=x
 ·subst h;simp
 ·have h1:decide ((Sum.inl y:Key)=Sum.inl x)=false:=decide_eq_false fun z=>h (by cases z;rfl)
  have h2:(x==y)=false:=by rw[beq_eq_false_iff_ne];exact fun z=>h z.symm
  rw[h1,h2]
theorem z6x{i:Nat}{b:SS->Option Out}{m:Nat}{d:D}(J:List Int->SS->Prop):∀{o p:List Int} {s:SS},p.length+o.length≤1000000->J p s →
  (∀p x s,p.length≤1000000->J p s->hol (b (s.set i (some (.sh (.int x))))) fun r=>if(((decide (0≤x)&&decide (x<(m:Int))) && !p.contains x))=true then ∃s',r = .nx s'∧J (p++[x]) s' else r = .rt d) →
  hol (z3n i b (o.map .int) s) fun r=>if tk m p o=true then ∃s' p',r = .nx s'∧J p' s' else r = .rt d
 |[],p,s,_,h0,_=>⟨_,rfl,(if_pos rfl).mpr ⟨s,p,rfl,h0⟩⟩
 |x::r,p,s,hn,h0,hs=>by
  have hn:p.length+(r.length+1)≤1000000:=hn
  obtain⟨o,e,q⟩:=hs p x s (by omega) h0
  rw[aO]
  unfold z3n
  rw[e]
  show hol _ fun q=>if(((decide (0≤x)&&decide (x<(m:Int))) && !p.contains x)&&tk m (p++[x]) r)=true then _ else _
  cases hc:((decide (0≤x)&&decide (x<(m:Int))) && !p.contains x)with
  |true=>
   rw[hc,if_pos rfl]at q
   obtain⟨s1,rfl,h1⟩:=q
   rw[Bool.true_and]
   exact z6x J (by simp;omega) h1 hs
  |false=>
   rw[hc,if_neg aj]at q
   subst q
   rw[cG]
   exact⟨_,rfl,(if_neg aj).mpr rfl⟩
theorem ll_il{o:List Int}:((o.map D.int).length:Int)=(o.length:Int):=by rw[ah]
theorem z9N{m:Nat}{o:List Int}(hl:o.length≤1000):z0y [.lst (o.map .int),.int (m:Int)]=some (.bl (z8n m o)):=by
 refine z0U rfl ?_
 have t0:D.dct [] []=z6N []:=rfl
 unfold z8n
 cases hd:decide ((o.length:Int)=(m:Int))with
 |false=>
  simp_all! only[z0Q,ll_il,hd,z0g]
 |true=>
  simp_all! only[z0Q,ll_il,hd,t0]
  obtain⟨r,e,q⟩:=z6x (i:=3) (m:=m) (d:=.bl false) (b:=(z0M (ifO (z9K (z2G (z1y (z0p z2b [(z0c 3),(z0c 1)]))) (y4R (z0c 3) (z0c 2))) (z2X (dC (.bl false))) z1M) (dput 2 (z0c 3) (dC (.bl true))))) (fun p s=>∃o3,s=[some (.sh (.lst (o.map .int))),some (.sh (.int (m:Int))),some (.ow (z6N p)),o3]) (o:=o) (p:=[]) (s:=[some (.sh (.lst (o.map .int))),some (.sh (.int (m:Int))),some (.ow (z6N [])),none]) (by simp;omega) ⟨_,rfl⟩ (by
   rintro p x s hp ⟨o3,rfl⟩
   have th:=y4Y x m
   cases h1:(decide (0≤x)&&decide (x<(m:Int)))with
   |false=>
    rw[h1]at th
    simp_all! only[th,z0g,b8,if_false]
   |true=>
    rw[h1]at th
    cases h2:p.contains x with
    |true=>
     simp_all! only[th,z9k,h2,z0g,b8,if_false]
    |false=>
     have hx:x∉p:=fun z=>by rw[bq.mpr z]at h2;cases h2
     simp_all! only[th,z9k,h2,y4E hx hp,z0g,if_true]
     exact⟨_,rfl,_,rfl⟩)
  rw[e]
  cases hk:tk m [] o with
  |true=>
   rw[hk,if_pos rfl]at q
   obtain⟨s',p',rfl,o3,rfl⟩:=q
   simp_all! only[z0g]
  |false=>
   rw[hk,if_neg aj]at q
   subst q
   simp_all! only[z0g]
theorem z9R{m:Nat}{o:List Int}(h:o.Perm (rngI m)):z8n m o=true:=by
 have hl:o.length=m:=by have:=h.length_eq;simpa[rngI] using this
 unfold z8n
 rw[hl,decide_eq_true rfl,y2K (fun x hx=>y4S (h.mem_iff.mp hx)) (h.nodup_iff.mpr z9P) fun _ _ z=>by cases z]
 rfl

/-! lists of lists of ints: as they are changed (ilD),and frozen (slD) -/
def ilD(L:List (List Int)):D:=.lst (L.map fun p=>.lst (p.map .int))
def slD(L:List (List Int)):D:=.lst (L.map D.scr)

/-! two tables alike -/
theorem z9o{n:Nat}{T:List (List Bool)}(sq:Sq n T)(hn:n≤900):z0x [z0u T,z0u T]=some (.bl true):=by
 refine z0U rfl ?_
 have il:isF "list" (z0u T)=true:=rfl
 have d0:(!decide ((n:Int)=(n:Int)))=false:=by simp
 simp_all! only[z1t,il,z2S,sq.1,d0,z1O (show n≤1000000 by omega)]
 refine z0E (I:=fun s=>∃o2 o3,s=[some (.sh (z0u T)),some (.sh (z0u T)),o2,o3]) ?_ ?_
 ·refine z2q (fun _ s=>∃o2 o3,s=[some (.sh (z0u T)),some (.sh (z0u T)),o2,o3]) ⟨_,_,rfl⟩ ?_ fun s z=>⟨s,rfl,z⟩
  rintro k hk s ⟨o2,o3,rfl⟩
  rw[bC]
  have ix:ixD (z0u T) (.int (k:Int))=some (z0S (T.getD k [])):=z2R (by rw[sq.1];exact hk)
  have lr:(T.getD k []).length=n:=by
   rw[ao,ae (by rw[sq.1];exact hk)]
   exact sq.2 _ (aU _)
  have l2:z2j [z0S (T.getD k [])]=some (.int (n:Int)):=by rw[←lr];exact z6g
  have ir:isF "list" (z0S (T.getD k []))=true:=rfl
  simp_all! only[ix,ir,l2,d0,z1O (show n≤1000000 by omega)]
  refine z2q (fun _ s=>∃o3,s=[some (.sh (z0u T)),some (.sh (z0u T)),some (.sh (.int (k:Int))),o3]) ⟨_,rfl⟩ ?_ fun s ⟨o3,z⟩=>⟨_,_,z⟩
  rintro j hj s ⟨o3,rfl⟩
  rw[bC]
  have i2:ixD (z0S (T.getD k [])) (.int (j:Int))=some (.bl (at2 T k j)):=by
   have:ixD (z0S (T.getD k [])) (.int (j:Int))=some (bD ((T.getD k []).getD j false)):=z2R (by rw[lr];exact hj)
   exact this
  have ib:isF "bool" (.bl (at2 T k j))=true:=rfl
  have nb:neD (.bl (at2 T k j)) (.bl (at2 T k j))=some (.bl false):=z7M y7u (by omega)
  simp_all! only[ix,i2,ib,nb,z0g]
  exact⟨_,rfl⟩
 ·rintro s ⟨o2,o3,rfl⟩
  simp! only[z0g]
/-! the things of joined tables,in their order -/
def hJn(Is:List (List (List Bool)))(n:Nat):List (Nat×Nat):=(ar n).flatMap fun k=>(ar (Is.getD k []).length).map fun a=>(k,a)
def hJ(Is:List (List (List Bool))):List (Nat×Nat):=hJn Is Is.length
theorem z6i{Is:List (List (List Bool))}{n:Nat}:hJn Is (n+1)=hJn Is n++(ar (Is.getD n []).length).map fun a=>(n,a):=by
 unfold hJn
 rw[List.range_succ,List.flatMap_append]
 simp
theorem hJn_mem{Is:List (List (List Bool))}{n:Nat}{z:Nat×Nat}:z∈hJn Is n↔z.1<n∧z.2<(Is.getD z.1 []).length:=by
 unfold hJn
 rw[List.mem_flatMap]
 constructor
 ·rintro⟨k,hk,hz⟩
  obtain⟨a,ha,rfl⟩:=bc.mp hz
  exact⟨aD.mp hk,aD.mp ha⟩
 ·rintro⟨h1,h2⟩
  exact⟨z.1,aD.mpr h1,bc.mpr ⟨z.2,aD.mpr h2,rfl⟩⟩
theorem hJn_lt{Is:List (List (List Bool))}:∀{n:Nat},(hJn Is n).Pairwise fun a b=>a.1<b.1∨(a.1=b.1∧a.2<b.2)
 |0=>List.Pairwise.nil
 |n+1=>by
  rw[z6i,List.pairwise_append]
  refine⟨hJn_lt,?_,fun a ha b hb=>?_⟩
  ·rw[bH]
   exact dh.imp fun h=>.inr ⟨rfl,h⟩
  ·obtain⟨c,_,rfl⟩:=bc.mp hb
   exact .inl (hJn_mem.mp ha).1
section
variable{O:List (List Bool)}{Is:List (List (List Bool))}{hs:List (Nat×Nat)}
theorem z6D(M:Mix O Is hs){z:Nat×Nat}:z∈hJ Is↔z∈hs:=by
 rw[M.prt.mem]
 exact hJn_mem
theorem hJ_nd:(hJ Is).Nodup:=hJn_lt.imp fun h e=>by subst e;omega
theorem z4x(M:Mix O Is hs):(hJ Is).Perm hs:=(c8 hJ_nd M.prt.nd).mpr fun _=>z6D M
def iP(z:Nat×Nat):Int×Int:=((z.1:Int),(z.2:Int))
theorem iP_inj{a b:Nat×Nat}(h:iP a=iP b):a=b:=by
 have h1:=congrArg Prod.fst h
 have h2:=congrArg Prod.snd h
 simp only[iP]at h1 h2
 exact Prod.ext (by omega) (by omega)
theorem sort_hs(M:Mix O Is hs):z7n [z4a hs]=some ((hJ Is).map prD):=by
 have e:hs.map prD=(hs.map iP).map prI:=by rw[aJ];rfl
 have e2:(hJ Is).map prD=((hJ Is).map iP).map prI:=by rw[aJ];rfl
 have nd:(hs.map iP).Nodup:=by
  unfold List.Nodup
  rw[bH]
  exact M.prt.nd.imp fun h z=>h (iP_inj z)
 have hp:=y7H M
 have hl:=M.le
 show(y6c (hs.map prD)).bind _=_
 rw[e,y3g,af,if_pos ⟨nd,by simpa using hp,by simp;omega⟩,e2]
 congr 2
 refine(y2P nd ((z4x M).map iP) ?_).symm
 rw[bH]
 refine hJn_lt.imp fun h=>?_
 rw[z0P]
 simp only[iP]
 omega
theorem due_row(M:Mix O Is hs){a:Nat×Nat}(ha:a∈hs):z0W [z4i O Is hs,prD a,z4a (hJ Is)]=some (z0S ((hJ Is).map fun b=>mb O Is a b)):=by
 refine z0U rfl ?_
 have hl:(hJ Is).length≤1000:=by rw[(z4x M).length_eq];have:=M.le;omega
 simp! only[z1U,z3L]
 rw[z2d (enc:=prD) (xs:=hJ Is) (fun b=>bD (mb O Is a b)) hl fun b hb=>by simp! only[z8e M ha ((z6D M).mp hb),bD]]
 have er:D.lst ((hJ Is).map fun b=>bD (mb O Is a b))=z0S ((hJ Is).map fun b=>mb O Is a b):=by unfold z0S;rw[aJ];rfl
 simp! only[er,z0g]
theorem bt_eq(M:Mix O Is hs){a b:Nat×Nat}(ha:a∈hs)(hb:b∈hs):z1C [z0u O,z0R Is,prD a,prD b]=some (.bl (mb O Is a b)):=by
 refine z0U rfl ?_
 obtain⟨a1,a2⟩:=(M.prt.mem a).mp ha
 obtain⟨b1,b2⟩:=(M.prt.mem b).mp hb
 by_cases h:a.1=b.1
 ·have hd:decide ((a.1:Int)=(b.1:Int))=true:=by simp[h]
  have i1:ixD (z0R Is) (.int (a.1:Int))=some (z0u (Is.getD a.1 [])):=z2R a1
  have i2:=ix2 (M.prt.inn a.1 a1).1.sq a2 (j:=b.2) (by rw[h];exact b2)
  simp! only[z1B,pr_0,pr_1,hd,i1,i2,z0g]
  unfold mb
  rw[if_pos h]
 ·have hd:decide ((a.1:Int)=(b.1:Int))=false:=by simp;omega
  have i2:=ix2 M.out.sq (i:=a.1) (j:=b.1) (by rw[←M.len];exact a1) (by rw[←M.len];exact b1)
  simp! only[z1B,pr_0,pr_1,hd,i2,z0g]
  unfold mb
  rw[if_neg h]
theorem jrow_eq(M:Mix O Is hs){a:Nat×Nat}(ha:a∈hs):z1x [z0u O,z0R Is,prD a,z4a (hJ Is)]=some (z0S ((hJ Is).map fun b=>mb O Is a b)):=by
 refine z0U rfl ?_
 have hl:(hJ Is).length≤1000:=by rw[(z4x M).length_eq];have:=M.le;omega
 simp! only[z2K,z3L]
 rw[z2d (enc:=prD) (xs:=hJ Is) (fun b=>bD (mb O Is a b)) hl fun b hb=>by simp! only[bt_eq M ha ((z6D M).mp hb),bD]]
 have er:D.lst ((hJ Is).map fun b=>bD (mb O Is a b))=z0S ((hJ Is).map fun b=>mb O Is a b):=by unfold z0S;rw[aJ];rfl
 simp! only[er,z0g]
end
section
variable{O:List (List Bool)}{Is:List (List (List Bool))}{hs:List (Nat×Nat)}
theorem y4m(M:Mix O Is hs):z4k [z0u O,z0R Is]=some (z0u (z5a O Is (hJ Is))):=by
 refine z0U rfl ?_
 have hlen:=(z4x M).length_eq
 have h8:=M.le
 have en:y0c (z0R Is)=some (z0G 0 (Is.map z0u)):=rfl
 have n0:D.lst []=z4a (hJn Is 0):=rfl
 simp! only[z5N,z2V,en]
 rw[n0]
 refine z0E (I:=fun s=>∃o3 o4,s=[some (.sh (z0u O)),some (.sh (z0R Is)),some (.ow (z4a (hJ Is))),o3,o4]) ?_ ?_
 ·refine z4l (enc:=z0u) (xs:=Is) (fun pre s=>∃o3 o4,s=[some (.sh (z0u O)),some (.sh (z0R Is)),some (.ow (z4a (hJn Is pre.length))),o3,o4]) ?_ (fun s z=>⟨s,rfl,z⟩) (pre:=[]) rfl ⟨_,_,rfl⟩
  rintro pre x post e s ⟨o3,o4,rfl⟩
  have hx:Is.getD pre.length []=x:=by rw[e];simp[bb]
  have hk:pre.length<Is.length:=by rw[e];simp
  have hsub:∀n≤Is.length,(hJn Is n).length≤8:=fun n hn=>by
   refine aR ?_ (show hs.length≤8 from h8)
   refine aR (List.Nodup.length_le_of_subset (l₂:=hJ Is) (hJn_lt.imp fun h e=>by subst e;omega) fun z hz=>?_) (by rw[hlen];exact ak _)
   have:=hJn_mem.mp hz
   exact hJn_mem.mpr ⟨by omega,this.2⟩
  have hx8:x.length≤8:=by
   have:=hsub (pre.length+1) hk
   rw[z6i,av,ah,bQ,hx]at this
   omega
  rw[av,bG,z6i,hx]
  have cx:∀p2,z2A (some ((ar x.length).map nD)) (z2l z2D (mkT (z0k [(z0c 3),(z0c 5)])) [some (z0u O),some (z0R Is),p2,some (.int ((pre.length:Nat):Int)),some (z0u x)])=some (((ar x.length).map fun a=>(pre.length,a)).map prD):=fun p2=>by
   rw[aJ]
   refine z2d (enc:=nD) (xs:=ar x.length) (fun a=>prD (pre.length,a)) (by simp;omega) fun a ha=>?_
   simp! only[nD,prD]
  have fl:∀L:List (Nat×Nat),z4O (some (L.map prD))=some (L.map prD):=fun L=>z3H (z5X fun d hd=>by
   obtain⟨b,_,rfl⟩:=bc.mp hd
   rfl)
  obtain⟨L2,hL2⟩:∃L2,L2=(ar x.length).map fun a=>(pre.length,a):=⟨_,rfl⟩
  rw[←hL2]at cx ⊢
  have ex:extV (some (z4a (hJn Is pre.length))) (some (.lst (L2.map prD)))=some (z4a (hJn Is pre.length++L2)):=by
   have h1:=hsub pre.length (by omega)
   have:extV (some (.lst ((hJn Is pre.length).map prD))) (some (.lst (L2.map prD)))=_:=eo_ext (by rw[ah,ah,hL2,ah,bQ];omega)
   rw[←aT]at this
   exact this
  simp! only[z2S,z1O (show x.length≤1000000 by omega),z5V,cx,fl,ex,z0g]
  exact⟨_,_,rfl⟩
 ·rintro s ⟨o3,o4,rfl⟩
  have cx:∀p3 p4,z2A (some ((hJ Is).map prD)) (z2l z2D (z0p z1x [(z0c 0),(z0c 1),(z0c 5),(z0c 2)]) [some (z0u O),some (z0R Is),some (z4a (hJ Is)),p3,p4])=some ((z5a O Is (hJ Is)).map z0S):=fun p3 p4=>by
   unfold z5a
   rw[aJ]
   refine z2d (enc:=prD) (xs:=hJ Is) (fun a=>z0S ((hJ Is).map fun b=>mb O Is a b)) (by omega) fun a ha=>?_
   simp! only[jrow_eq M ((z6D M).mp ha)]
  simp! only[z3L,cx,z0g]
  rfl
end
theorem y5y{i:Nat}{fk f:DE}{s:SS}{x d:D}{es:List D}(hk:fk (z0i s)=some (.int 1))(hf:f (z0i s)=some d)(hi:owA i s=some (.lst [x,.lst es]))(hl:es.length≤1000):y2t i fk f s=z2C i (some (.lst [x,.lst (es++[d])])) s:=by
 unfold y2t
 have e1:ixN ([x,.lst es]:List D).length 1=some 1:=rfl
 simp only[hk,hf,owA_get hi,af,e1]
 show(if es.length<sizeLine then _ else _)=_
 rw[if_pos (by rw[PySem.sizeLine_eq];omega)]
 rfl
theorem z8o{n:Nat}{T:List (List Bool)}(sq:Sq n T)(h0:0<n):∃ds,m1V clrF (some (z0u T)) (some (.int 0)) (some [])=some (.lst ds):=by
 cases T with
 |nil=>have:=sq.1;simp at this;omega
 |cons r T=>
  refine⟨.lst []::T.map z0S,?_⟩
  show((ixN ((r::T).map z0S).length ((0:Nat):Int)).bind fun j=>_)=_
  rw[y2v (by simp),af]
  show(if z0L (r.map bD)=true then(z4O (clrF (r.map bD) [])).map _ else none)=_
  rw[if_pos (z1b r)]
  rfl
section
variable{O:List (List Bool)}{Is:List (List (List Bool))}{hs:List (Nat×Nat)}
theorem y3Y(M:Mix O Is hs):z0J [z4i O Is hs]=some (.bl true):=by
 refine z0U rfl ?_
 have hlen:=(z4x M).length_eq
 have h8:=M.le
 have o8:=M.o8
 have hpos:=y7H M
 have fl:∀L:List (Nat×Nat),z4O (some (L.map prD))=some (L.map prD):=fun L=>z3H (z5X fun d hd=>by
  obtain⟨b,_,rfl⟩:=bc.mp hd
  rfl)
 have tl:∀L:List (Nat×Nat),D.lst (L.map prD)=z4a L:=fun _=>rfl
 have tt:∀T:List (List Bool),D.lst (T.map z0S)=z0u T:=fun _=>rfl
 have cd:z2A (some ((hJ Is).map prD)) (z2l z2D (z0p z0W [(z0c 0),(z0c 6),(z0c 1)]) [some (z4i O Is hs),some (z4a (hJ Is)),none,none,none,none])=some ((z5a O Is (hJ Is)).map z0S):=by
  unfold z5a
  rw[aJ]
  refine z2d (enc:=prD) (xs:=hJ Is) (fun a=>z0S ((hJ Is).map fun b=>mb O Is a b)) (by omega) fun a ha=>?_
  simp! only[due_row M ((z6D M).mp ha)]
 have cc:∀(T:List (List Bool)) (a0 a1 a2 a3 a4 a5:Option D),T.length≤1000->z2A (some (T.map z0S)) (z2l z2D (z0w (z1i z2n [(z0c 6)])) [a0,a1,a2,a3,a4,a5])=some (T.map z0S):=fun T a0 a1 a2 a3 a4 a5 hT=>by
  rw[z3A (by rw[ah];omega)]
  exact z2f z0S fun r _=>z5B rfl
 have sO:z5b (z0u O)=some (O.map z0S):=z5Y
 have sI:z5b (z0R Is)=some (Is.map z0u):=rfl
 have c1:=fun a0 a1 a2 a3 a4 a5=>cc O a0 a1 a2 a3 a4 a5 (by omega)
 obtain⟨T,hT⟩:∃T,T=z5a O Is (hJ Is):=⟨_,rfl⟩
 rw[←hT]at cd
 have nl:D.lst []=z0R []:=rfl
 simp! only[z0Y,y3A,sort_hs M,fl,tl,z3L,cd,tt,y1R,sO,c1,z2V,mix_1,sI]
 rw[nl]
 refine z0E (I:=fun s=>∃o4,s=[some (.sh (z4i O Is hs)),some (.ow (z4a (hJ Is))),some (.ow (z0u T)),some (.ow (.lst [z0u O,z0R Is])),o4,none]) ?_ ?_
 ·refine z4N (enc:=z0u) (xs:=Is) (fun pre s=>∃o4,s=[some (.sh (z4i O Is hs)),some (.ow (z4a (hJ Is))),some (.ow (z0u T)),some (.ow (.lst [z0u O,z0R pre])),o4,none]) ⟨_,rfl⟩ ?_ fun s z=>⟨s,rfl,z⟩
  rintro pre x post e s ⟨o4,rfl⟩
  have hx8:x.length≤1000:=by
   have hk:pre.length<Is.length:=by rw[e];simp
   have hx:Is.getD pre.length []=x:=by rw[e];simp[bb]
   have:((ar x.length).map fun a=>(pre.length,a)).length≤hs.length:=List.Nodup.length_le_of_subset (by
    unfold List.Nodup
    rw[bH]
    exact dh.imp fun h z=>by cases z;omega) fun z hz=>by
     obtain⟨a,ha,rfl⟩:=bc.mp hz
     exact(M.prt.mem _).mpr ⟨hk,by rw[hx];exact aD.mp ha⟩
   simp at this
   omega
  have hpl:pre.length≤1000:=by
   have:=congrArg List.length e
   rw[M.len,av]at this
   omega
  have sx:z5b (z0u x)=some (x.map z0S):=z5Y
  have c2:=fun a0 a1 a2 a3 a4 a5=>cc x a0 a1 a2 a3 a4 a5 hx8
  have ap:=y5y (i:=3) (fk:=dC (.int 1)) (f:=mkL (z0T (z3Y (z0c 4)) z2D (z0w (z1i z2n [(z0c 6)])))) (s:=[some (.sh (z4i O Is hs)),some (.ow (z4a (hJ Is))),some (.ow (z0u T)),some (.ow (.lst [z0u O,z0R pre])),some (.sh (z0u x)),none]) (x:=z0u O) (d:=z0u x) (es:=pre.map z0u) (by simp! only[]) (by simp! only[sx,c2,tt]) rfl (by rw[ah];exact hpl)
  have er:D.lst [z0u O,.lst (pre.map z0u++[z0u x])] = .lst [z0u O,z0R (pre++[x])]:=by unfold z0R;rw[aT];rfl
  rw[er]at ap
  obtain⟨W,hW⟩:∃W,W=z0R (pre++[x]):=⟨_,rfl⟩
  rw[←hW]at ap ⊢
  simp! only[ap,z0g]
  exact⟨_,rfl⟩
 ·rintro s ⟨o4,rfl⟩
  have j0:atI [z0u O,z0R Is] 0=some (z0u O):=rfl
  have j1:atI [z0u O,z0R Is] 1=some (z0R Is):=rfl
  have je:=y4m M
  have sq:Sq (hJ Is).length T:=by rw[hT];exact z7T
  rw[←hT]at je
  have al:=z9o sq (by omega)
  obtain⟨ds,cl⟩:=z8o sq (by omega)
  have im:z7q (some [])=some []:=rfl
  have ok:okN 4 (.lst [z0u O,z0R Is]):=z7S fun d hd=>by
   have:d=z0u O∨d=z0R Is:=by simpa using hd
   rcases this with rfl | rfl
   ·exact okN_up (z7Y O) (by omega)
   ·exact z3z fun r _=>z7Y r
  have qe:eqD (.lst [z0u O,z0R Is]) (.lst [z0u O,z0R Is])=some (.bl true):=eq_same ok (by omega)
  simp_all! only[j0,j1,je,al,im,cl,y1R,mix_1,qe,z0g]
end

structure Ok(m:Nat)(P:List (List Nat)):Prop where
 ne:∀p∈P,p≠[]
 pm:P.flatten.Perm (ar m)
theorem Ok.lt{m:Nat}{P:List (List Nat)}(K:Ok m P){p:List Nat}(hp:p∈P):∀x∈p,x<m:=fun x hx=>aD.mp (K.pm.mem_iff.mp (cj.mpr ⟨p,hp,hx⟩))
theorem y5q{P:List (List Nat)}{p:List Nat}(h:p∈P):p.length≤P.flatten.length:=by
 induction P with
 |nil=>cases h
 |cons a r ih=>
  rw[aP,av]
  rcases aq.mp h with z | z
  ·rw[z];omega
  ·have:=ih z
   omega
theorem Ok.fl{m:Nat}{P:List (List Nat)}(K:Ok m P):P.flatten.length=m:=K.pm.length_eq.trans bQ
theorem Ok.pl{m:Nat}{P:List (List Nat)}(K:Ok m P){p:List Nat}(hp:p∈P):p.length≤m:=by
 have:=y5q hp
 have:=K.fl
 omega
theorem Ok.len{m:Nat}{P:List (List Nat)}(K:Ok m P):P.length≤m:=by
 have h:∀M:List (List Nat),(∀p∈M,p≠[])->M.length≤M.flatten.length:=fun M=>by
  induction M with
  |nil=>exact fun _=>ak _
  |cons p M ih=>
   intro hne
   have:=ih fun q hq=>hne q (ac _ hq)
   have:0<p.length:=dE.mpr (hne p ag)
   rw[aP,av,bv]
   omega
 have:=h P K.ne
 have:=K.fl
 omega

theorem nD_i(o:List Nat):o.map nD=(o.map fun n=>((n:Nat):Int)).map D.int:=by rw[aJ];rfl
theorem y3M{m:Nat}(hm:m≤900){o:List Nat}(hp:o.Perm (ar m)):z0y [thD o,.int (m:Int)]=some (.bl true):=by
 have hl:o.length=m:=by simpa using hp.length_eq
 have t:=z9N (m:=m) (o:=o.map fun n=>((n:Nat):Int)) (by rw[ah];omega)
 rw[z9R (hp.map _)]at t
 rw[←t]
 show z0y [.lst (o.map nD),_]=_
 rw[nD_i]
theorem st_natV{o:List Nat}{k x:Nat}(h:k<o.length):st0V (some (thD o)) (some (.int (k:Int))) (some (.int (x:Int)))=some (thD (o.set k x)):=by
 show(ixN (o.map nD).length (k:Int)).map (fun j=>D.lst ((o.map nD).set j (.int (x:Int))))=_
 rw[y2v (by simpa using h),bz]
 unfold thD
 rw[cO]
 rfl
theorem z4z{m:Nat}{P:List (List Nat)}(K:Ok m P)(hm:m≤8):∃xs:List Nat,xs.length=m∧z1p [llD P,.int (m:Int)]=some (.val (thD xs))∧∀k<P.length,∀t∈P.getD k [],xs.getD t 0=k:=by
 have hfl:=K.fl
 have hlen:=K.len
 have nd:P.flatten.Nodup:=K.pm.nodup_iff.mpr ci
 have key:hol (z2u ([llD P,.int (m:Int)].map (fun d=>some (.sh d))++ad 5 none)) fun o=>∃xs:List Nat,o = .rt (thD xs)∧xs.length=m∧∀k<P.length,∀t∈P.getD k [],xs.getD t 0=k:=by
  have n0:D.lst []=thD ([]:List (List Nat)).flatten:=rfl
  have sL:z5b (llD P)=some (P.map thD):=rfl
  have en:y0c (llD P)=some (z0G 0 (P.map thD)):=rfl
  simp! only[z2u,z2V,sL]
  rw[n0]
  refine z0E (I:=fun s=>∃o3,s=[some (.sh (llD P)),some (.sh (.int (m:Int))),some (.ow (thD P.flatten)),o3,none,none,none]) (z4N (enc:=thD) (xs:=P) (fun pre s=>∃o3,s=[some (.sh (llD P)),some (.sh (.int (m:Int))),some (.ow (thD pre.flatten)),o3,none,none,none]) ⟨_,rfl⟩ ?_ fun s z=>⟨s,rfl,z⟩) ?_
  ·rintro pre p post e s ⟨o3,rfl⟩
   have hp:p∈P:=by rw[e];simp
   have hne:decide ((p.length:Int)=0)=false:=decide_eq_false fun z=>K.ne p hp (List.length_eq_zero_iff.mp (by omega))
   have hfe:=congrArg (fun L=>(List.flatten L).length) e
   simp only[dG,aP,av]at hfe
   have ex:y5u (some (thD pre.flatten)) (some (thD p))=some (thD (pre.flatten++p)):=by
    have:y5u (some (.lst (pre.flatten.map nD))) (some (.lst (p.map nD)))=_:=eo_extD (by rw[nD_i];exact z8E _) (by rw[ah,ah];omega)
    rw[←aT]at this
    exact this
   have ef:(pre++[p]).flatten=pre.flatten++p:=by simp
   rw[ef]
   obtain⟨W,hW⟩:∃W,W=pre.flatten++p:=⟨_,rfl⟩
   rw[←hW]at ex ⊢
   simp_all! only[z8K,hne,ex,z0g]
   exact⟨_,rfl⟩
  ·rintro s ⟨o3,rfl⟩
   have te:=y3M (show m≤900 by omega) K.pm
   have rp:repO (some (.lst [.int 0])) (some (.int (m:Int)))=some ((ad m (0:Nat)).map nD):=by rw[y3e (by omega),dL];rfl
   have tl:∀W:List Nat,D.lst (W.map nD)=thD W:=fun _=>rfl
   simp_all! only[te,rp,z3D,tl,en]
   refine z0E (I:=fun s=>∃(xs:List Nat) (o2 o3 o5 o6:Option SD),s=[some (.sh (llD P)),some (.sh (.int (m:Int))),o2,o3,some (.ow (thD xs)),o5,o6]∧xs.length=m∧∀k<P.length,∀t∈P.getD k [],xs.getD t 0=k) ?_ ?_
   ·refine z4l (enc:=thD) (xs:=P) (fun pre s=>∃(xs:List Nat) (o2 o3 o5 o6:Option SD),s=[some (.sh (llD P)),some (.sh (.int (m:Int))),o2,o3,some (.ow (thD xs)),o5,o6]∧xs.length=m∧∀k<pre.length,∀t∈P.getD k [],xs.getD t 0=k) ?_ (fun s z=>⟨s,rfl,z⟩) (pre:=[]) rfl ⟨_,_,_,_,_,rfl,by simp,fun k hk=>absurd hk (bZ _)⟩
    rintro pre p post e s ⟨xs,o2,o3,o5,o6,rfl,hx,hv⟩
    have hp:p∈P:=by rw[e];simp
    have hpk:P.getD pre.length []=p:=by rw[e];simp[bb]
    have sp:z5b (thD p)=some (p.map nD):=rfl
    simp! only[sp]
    refine z4N (enc:=nD) (xs:=p) (fun pr s=>∃(xs:List Nat) (o2 o6:Option SD),s=[some (.sh (llD P)),some (.sh (.int (m:Int))),o2,some (.sh (thD p)),some (.ow (thD xs)),some (.sh (.int ((pre.length:Nat):Int))),o6]∧xs.length=m∧(∀k<pre.length,∀t∈P.getD k [],xs.getD t 0=k)∧∀t∈pr,xs.getD t 0=pre.length) ⟨xs,_,_,rfl,hx,hv,fun _ h=>nomatch h⟩ ?_ ?_
    ·rintro pr t po e2 s ⟨xs,o2,o6,rfl,hx,hv,hw⟩
     have htp:t∈p:=by rw[e2];simp
     have ht:=K.lt hp t htp
     have so:=st_natV (o:=xs) (k:=t) (x:=pre.length) (by omega)
     obtain⟨W,hW⟩:∃W,W=xs.set t pre.length:=⟨_,rfl⟩
     rw[←hW]at so
     simp! only[nD,so,z0g]
     refine⟨W,_,_,rfl,by rw[hW,bF];exact hx,fun k hk u hu=>?_,fun u hu=>?_⟩
     ·have hne:t≠u:=fun z=>by
       subst z
       rw[e,dG,aP]at nd
       have h1:P.getD k []∈pre:=by
        have:P.getD k []=pre[k]:=by rw[e,ao,aN hk,ae hk];rfl
        rw[this];exact aU hk
       exact(ay.mp nd).2.2 t (cj.mpr ⟨_,h1,hu⟩) t (bg _ htp) rfl
      rw[hW,ao,aE hne,←ao]
      exact hv k hk u hu
     ·by_cases hut:u=t
      ·subst hut
       rw[hW,ao,bi (by omega)]
       rfl
      ·have hu:u∈pr:=by
        rcases aw.mp hu with z | z
        ·exact z
        ·exact absurd (aS.mp z) hut
       rw[hW,ao,aE (Ne.symm hut),←ao]
       exact hw u hu
    ·rintro s ⟨xs,o2,o6,rfl,hx,hv,hw⟩
     refine⟨xs,_,_,_,_,rfl,hx,fun k hk u hu=>?_⟩
     rw[av,bG]at hk
     by_cases hkp:k=pre.length
     ·subst hkp
      rw[hpk]at hu
      exact hw u hu
     ·exact hv k (by omega) u hu
   ·rintro s ⟨xs,o2,o3,o5,o6,rfl,hx,hv⟩
    simp! only[z0g]
    exact⟨xs,rfl,hx,hv⟩
 obtain⟨o,e,xs,rfl,hx,hv⟩:=key
 exact⟨xs,hx,y1U rfl ⟨_,e,rfl⟩,hv⟩
theorem wh74{x:Int}:z1N [.int x]=some (.bl true):=by
 refine z0U rfl ?_
 simp_all! only[z2J,z0g]
theorem z9W{m:Nat}{P:List (List Nat)}(K:Ok m P)(hm:m≤8):z0I [llD P,.int (m:Int)]=some (.bl true):=by
 refine z0U rfl ?_
 obtain⟨xs,hx,pe,hv⟩:=z4z K hm
 have hlen:=K.len
 have sL:z5b (llD P)=some (P.map thD):=rfl
 have tl:∀W:List Nat,D.lst (W.map nD)=thD W:=fun _=>rfl
 have tL:D.lst (P.map thD)=llD P:=rfl
 have cc:z2A (some (P.map thD)) (z2l z2D (z0w (z1i z2n [(z0c 5)])) [some (llD P),some (.int (m:Int)),none,none,none])=some (P.map thD):=by
  refine z2d (enc:=thD) (xs:=P) thD (by omega) fun p hp=>?_
  have lp:z2n [thD p]=some (p.map nD):=rfl
  simp! only[lp,z3D,tl]
 have il:isF "list" (thD xs)=true:=rfl
 have d0:(!decide ((m:Int)=(m:Int)))=false:=by simp
 have nP:neD (llD P) (llD P)=some (.bl false):=z7M (n:=2) (z3z fun p _=>y6Q p) (by omega)
 have lx:z2j [thD xs]=some (.int (m:Int)):=by rw[z8K,hx]
 simp_all! only[z1a,sL,cc,tL,pe,il,lx,d0,nP,z1O (show m≤1000000 by omega)]
 refine z0E (I:=fun s=>∃o4,s=[some (.sh (llD P)),some (.sh (.int (m:Int))),some (.ow (llD P)),some (.ow (thD xs)),o4]) ?_ ?_
 ·refine z2q (fun _ s=>∃o4,s=[some (.sh (llD P)),some (.sh (.int (m:Int))),some (.ow (llD P)),some (.ow (thD xs)),o4]) ⟨_,rfl⟩ ?_ fun s z=>⟨s,rfl,z⟩
  rintro t ht s ⟨o4,rfl⟩
  rw[bC]
  obtain⟨p,hp,htp⟩:=cj.mp (K.pm.mem_iff.mpr (aD.mpr ht))
  obtain⟨k,hk,ek⟩:=bf.mp hp
  have ep:P.getD k []=p:=by rw[ao,ae hk,ek];rfl
  have exk:=hv k hk t (by rw[ep];exact htp)
  have ix:ixD (thD xs) (.int (t:Int))=some (.int (k:Int)):=by
   have:ixD (thD xs) (.int (t:Int))=some (nD (xs.getD t 0)):=z2R (by omega)
   rw[this,exk]
   rfl
  have iP:ixD (llD P) (.int (k:Int))=some (thD p):=by
   have:ixD (llD P) (.int (k:Int))=some (thD (P.getD k [])):=z2R hk
   rw[this,ep]
  have l1:z2j [llD P]=some (.int (P.length:Int)):=z6g
  have d1:decide ((k:Int)<0)=false:=decide_eq_false (by omega)
  have d2:decide ((k:Int) ≥ (P.length:Int))=false:=decide_eq_false (by omega)
  have hc:(!p.contains t)=false:=by rw[bq.mpr htp];rfl
  have wh:=wh74 (x:=(k:Int))
  simp_all! only[ix,wh,d1,l1,d2,iP,y3V,hc,z0g]
  exact⟨_,rfl⟩
 ·rintro s ⟨o4,rfl⟩
  simp! only[z0g]

def hdT(T:List (List Bool))(P:List (List Nat)):List (List Bool):=z6y (P.map fun p=>p.headD 0) (at2 T)
section
variable{m:Nat}{T:List (List Bool)}{P:List (List Nat)}
theorem y4K(K:Ok m P):∀x∈P.map fun p=>p.headD 0,x<m:=fun x hx=>by
 obtain⟨p,hp,rfl⟩:=bc.mp hx
 cases h:p with
 |nil=>exact absurd h (K.ne p hp)
 |cons a r=>exact K.lt hp a (by rw[h];exact ag)
theorem y3H(sq:Sq m T)(hm:m≤8)(K:Ok m P)(h:∀p∈P,y0j T m p=true):z4j [z0u T,llD P]=some (.val (z0u (hdT T P))):=by
 have hl:=K.len
 obtain⟨xs,hx,pe,hv⟩:=z4z K hm
 have seq_lls:z5b (llD P)=some (P.map thD):=rfl
 have c1:z2A (some (P.map thD)) (z2l z2D (z0p z0D [z0c 0,z0c 2]) [some (z0u T),some (llD P)])=some ((P.map (y0j T m)).map bD):=by
  rw[aJ]
  refine z2d (enc:=thD) (xs:=P) (fun p=>bD (y0j T m p)) (by omega) fun p hp=>?_
  have st:=stog_eq sq (show m≤900 by omega) (show p.length≤900 by have:=K.pl hp;omega) (K.lt hp)
  simp! only[st,bD]
 have al:allF [.lst ((P.map (y0j T m)).map bD)]=some (.bl true):=by
  have e:P.all (y0j T m)=true:=aK.mpr h
  rw[y6S,List.all_map]
  exact congrArg (fun b=>some (D.bl b)) e
 refine y1U rfl ?_
 have c2:z2A (some (P.map thD)) (z2l z2D (d2 ixD (z0c 2) (dC (.int 0))) [some (z0u T),some (llD P)])=some ((P.map fun p=>p.headD 0).map nD):=by
  rw[aJ]
  refine z2d (enc:=thD) (xs:=P) (fun p=>nD (p.headD 0)) (by omega) fun p hp=>?_
  have ix:ixD (thD p) (.int 0)=some (nD (p.headD 0)):=by
   cases h:p with
   |nil=>exact absurd h (K.ne p hp)
   |cons a r=>exact y3P
  simp! only[ix]
 have pt:=part_eq sq (th:=P.map fun p=>p.headD 0) (by rw[ah];omega) (y4K K)
 have tl:∀W:List Nat,D.lst (W.map nD)=thD W:=fun _=>rfl
 simp_all! only[z5O,z2S,sq.1,pe,seq_lls,c1,al,c2,tl,pt,z0g]
 rfl
theorem tog_mem{A B:List Nat}(h:∀x,x∈A↔x∈B):y0j T m A=y0j T m B:=by
 have c:∀o,A.contains o=B.contains o:=fun o=>by rw[bX,bq,bq];exact h o
 have a:∀q:Nat->Bool,A.all q=B.all q:=fun q=>by
  rw[bX,aK,aK]
  exact⟨fun z x hx=>z x ((h x).mpr hx),fun z x hx=>z x ((h x).mp hx)⟩
 have n:∀q:Nat->Bool,A.any q=B.any q:=fun q=>by
  rw[bX,List.any_eq_true,List.any_eq_true]
  exact⟨fun⟨x,hx,z⟩=>⟨x,(h x).mp hx,z⟩,fun⟨x,hx,z⟩=>⟨x,(h x).mpr hx,z⟩⟩
 unfold y0j brk z7N
 simp only[c,a,n]
theorem y4Q{xs:List Nat}{f:Nat->Nat->Bool}:z6y xs.reverse f=(z6y xs f).reverse.map cN:=by
 unfold z6y
 rw[bu,bu,aJ]
 congr 1
 apply cH
 intro a _
 rw[bu]
 rfl
end
section
variable{O:List (List Bool)}{Is:List (List (List Bool))}{hs:List (Nat×Nat)}{P:List (List Nat)}
theorem pc_mem{k t:Nat}:t∈pc hs k↔t<hs.length∧(hs.getD t (0,0)).1=k:=by
 unfold pc
 rw[cY,aD,decide_eq_true_eq]
theorem pc_nd{k:Nat}:(pc hs k).Nodup:=List.Pairwise.filter _ ci
structure Rt(n:Nat)(hs:List (Nat×Nat))(P:List (List Nat)):Prop where
 len:P.length=n
 pm:∀k<n,(P.getD k []).Perm (pc hs k)
theorem Rt.at{n:Nat}(R:Rt n hs P){k:Nat}(hk:k<P.length):P[k].Perm (pc hs k):=by
 have:=R.pm k (by rw[←R.len];exact hk)
 rw[ao,ae hk]at this
 exact this
theorem rt_pcs{n:Nat}:Rt n hs (pcs n hs):=by
 have hl:(pcs n hs).length=n:=by simp[pcs]
 refine⟨hl,fun k hk=>?_⟩
 have:(pcs n hs).getD k []=pc hs k:=by
  unfold pcs
  rw[ao,aL,dF hk]
  rfl
 rw[this]
theorem Rt.set{n:Nat}(R:Rt n hs P){k:Nat}{q:List Nat}(hq:q.Perm (P.getD k [])):Rt n hs (P.set k q):=by
 refine⟨by rw[bF];exact R.len,fun j hj=>?_⟩
 by_cases e:k=j
 ·subst e
  rw[ao,bi (by rw[R.len];exact hj)]
  exact hq.trans (R.pm k hj)
 ·rw[ao,aE e,←ao]
  exact R.pm j hj
theorem Rt.ok(M:Mix O Is hs)(R:Rt O.length hs P):Ok hs.length P:=by
 have gt:∀t (h:t<hs.length),hs.getD t (0,0)=hs[t]:=fun t h=>by simp[bb,h]
 refine⟨fun p hp=>?_,(c8 ?_ ci).mpr fun x=>?_⟩
 ·obtain⟨k,hk,rfl⟩:=bf.mp hp
  have hk':k<Is.length:=by rw[M.len,←R.len];exact hk
  have hz:((k,0):Nat×Nat)∈hs:=(M.prt.mem _).mpr ⟨hk',(M.prt.inn k hk').2⟩
  obtain⟨t,ht,e⟩:=bf.mp hz
  exact List.ne_nil_of_mem ((R.at hk).mem_iff.mpr (pc_mem.mpr ⟨ht,by rw[gt t ht,e]⟩))
 ·unfold List.Nodup
  rw[List.pairwise_flatten]
  refine⟨fun p hp=>?_,ce.mpr fun i j hi hj hij x hx y hy e=>?_⟩
  ·obtain⟨k,hk,rfl⟩:=bf.mp hp
   exact(R.at hk).nodup_iff.mpr pc_nd
  ·subst e
   have h1:=(pc_mem.mp ((R.at hi).mem_iff.mp hx)).2
   have h2:=(pc_mem.mp ((R.at hj).mem_iff.mp hy)).2
   omega
 ·rw[cj,aD]
  constructor
  ·rintro⟨p,hp,hx⟩
   obtain⟨k,hk,rfl⟩:=bf.mp hp
   exact(pc_mem.mp ((R.at hk).mem_iff.mp hx)).1
  ·intro hx
   have h1:=(M.prt.mem hs[x]).mp (aU hx)
   have hk:hs[x].1<P.length:=by rw[R.len,←M.len];exact h1.1
   exact⟨P[hs[x].1],aU hk,(R.at hk).mem_iff.mpr (pc_mem.mpr ⟨hx,by rw[gt x hx]⟩)⟩
theorem Rt.tog(M:Mix O Is hs)(R:Rt O.length hs P):∀p∈P,y0j (z5a O Is hs) hs.length p=true:=fun p hp=>by
 have gt:∀t (h:t<hs.length),hs.getD t (0,0)=hs[t]:=fun t h=>by simp[bb,h]
 obtain⟨k,hk,rfl⟩:=bf.mp hp
 rw[tog_mem fun x=>(R.at hk).mem_iff]
 refine aK.mpr fun o ho=>?_
 have ho:=aD.mp ho
 unfold brk
 by_cases hm:o∈pc hs k
 ·rw[bq.mpr hm];rfl
 ·have ho1:(hs.getD o (0,0)).1≠k:=fun z=>hm (pc_mem.mpr ⟨ho,z⟩)
  have e:∀x∈pc hs k,at2 (z5a O Is hs) o x=at2 O (hs.getD o (0,0)).1 k:=fun x hx=>by
   obtain⟨hx,h1⟩:=pc_mem.mp hx
   rw[gt x hx]at h1
   rw[gt o ho]at ho1 ⊢
   rw[z4B ho hx]
   unfold mb
   rw[if_neg (by rw[h1];exact ho1),h1]
  have:z7N (z5a O Is hs) o (pc hs k)=true:=by
   unfold z7N
   cases h:at2 O (hs.getD o (0,0)).1 k with
   |true=>
    rw[aK.mpr fun x hx=>by rw[e x hx,h]]
    rfl
   |false=>
    rw[show((pc hs k).any fun j=>at2 (z5a O Is hs) o j)=false from cP.mpr fun x hx=>by rw[e x hx,h];exact aj]
    cases (pc hs k).all fun j=>at2 (z5a O Is hs) o j <;> rfl
  rw[this]
  cases (pc hs k).contains o <;> rfl
end

section
variable{O:List (List Bool)}{Is:List (List (List Bool))}{hs:List (Nat×Nat)}{P:List (List Nat)}
theorem hd_is(M:Mix O Is hs)(R:Rt O.length hs P):hdT (z5a O Is hs) P=O:=by
 have gt:∀t (h:t<hs.length),hs.getD t (0,0)=hs[t]:=fun t h=>by simp[bb,h]
 have K:=R.ok M
 have hd:∀k (hk:k<P.length),P[k].headD 0∈pc hs k:=fun k hk=>by
  refine(R.at hk).mem_iff.mp ?_
  have hne:=K.ne _ (aU hk)
  cases h:P[k]with
  |nil=>exact absurd h hne
  |cons a r=>exact ag
 have cell:∀i (hi:i<P.length) j (hj:j<P.length),at2 (z5a O Is hs) (P[i].headD 0) (P[j].headD 0)=at2 O i j:=fun i hi j hj=>by
  obtain⟨h1,h2⟩:=pc_mem.mp (hd i hi)
  obtain⟨h3,h4⟩:=pc_mem.mp (hd j hj)
  rw[gt _ h1]at h2
  rw[gt _ h3]at h4
  by_cases e:i=j
  ·subst e
   rw[(y1T M).own _ h1,M.out.own i (by rw[←R.len];exact hi)]
  ·rw[z4B h1 h3]
   unfold mb
   rw[if_neg (by rw[h2,h4];exact e),h2,h4]
 unfold hdT z6y
 apply cv
 ·simp[R.len]
 ·intro i h1 h2
  have hi:i<P.length:=by simpa using h1
  rw[bL,bL]
  apply cv
  ·rw[ah,ah,R.len]
   exact(M.out.sq.row h2).symm
  ·intro j h3 h4
   have hj:j<P.length:=by simpa using h3
   rw[bL,bL,cell i hi j hj]
   unfold at2
   rw[ao (l:=O),ae h2,bS,ao,ae h4]
   rfl
theorem Ok.rev{m:Nat}(K:Ok m P):Ok m P.reverse:=⟨fun p hp=>K.ne p (cU.mp hp),(List.Perm.flatten (List.reverse_perm P)).trans K.pm⟩
theorem st_ll{k:Nat}{q:List Nat}(hk:k<P.length):st0NV (some (llD P)) (some (.int (k:Int))) (some (thD q))=some (llD (P.set k q)):=by
 show(ixN (P.map thD).length (k:Int)).map (fun j=>D.lst ((P.map thD).set j (thD q)))=_
 rw[y2v (by simpa using hk),bz]
 unfold llD
 rw[cO]
def z3b(O:List (List Bool)):List (List Bool):=O.reverse.map cN
theorem sq_back{n:Nat}(sq:Sq n O):Sq n (z3b O):=⟨by simp[z3b,sq.1],fun r hr=>by
 obtain⟨s,hs,rfl⟩:=bc.mp hr
 rw[cI]
 exact sq.2 s (cU.mp hs)⟩
end
theorem cat_rot{p:List Nat}{c:Nat}:(p.drop c++p.take c).Perm p:=dq.trans (by rw[cC])
def tlD(z:List (List Nat)×List (List Bool)):D:=.lst [llD z.1,z0u z.2]
theorem law_true(ns:List Int)(hns:ns.length≤63):z9L [.scr ns]=some (.bl true):=by
 refine z0U rfl ?_
 obtain⟨_,em,O,Is,hs,rfl,M⟩:=y4T ns
 have em:z1z [.scr ns]=some (z4i O Is hs):=em
 have h8:=M.le
 have o8:=M.o8
 have sqT:Sq hs.length (z5a O Is hs):=z7T
 have te:=y2W M
 have pe:=y1m M
 have je:=y3Y M
 obtain⟨T,hT⟩:∃T,T=z5a O Is hs:=⟨_,rfl⟩
 have hpl:(pcs O.length hs).length=O.length:=by simp[pcs]
 have lP:∀P:List (List Nat),z2j [llD P]=some (.int (P.length:Int)):=fun _=>z6g
 rw[←hT]at te sqT
 simp! only[g_law,em,te,pe,lP,hpl]
 refine z0E (I:=fun s=>∃(P:List (List Nat)) (o4 o5:Option SD),s=[some (.sh (.scr ns)),some (.sh (z4i O Is hs)),some (.sh (z0u T)),some (.ow (llD P)),o4,o5,none,none,none,none]∧Rt O.length hs P) ?_ ?_
 ·simp only[z7O (show O.length≤1000000 by omega),z7W]
  refine z2q (fun _ s=>∃(P:List (List Nat)) (o4 o5:Option SD),s=[some (.sh (.scr ns)),some (.sh (z4i O Is hs)),some (.sh (z0u T)),some (.ow (llD P)),o4,o5,none,none,none,none]∧Rt O.length hs P) ⟨_,_,_,rfl,rt_pcs⟩ ?_ fun s z=>⟨s,rfl,z⟩
  rintro k hk s ⟨P,o4,o5,rfl,R⟩
  rw[bC]
  have hkP:k<P.length:=by rw[R.len];exact hk
  have K:=R.ok M
  have hpP:P.getD k []∈P:=by
   rw[ao,ae hkP]
   exact aU hkP
  obtain⟨p,hp⟩:∃p,p=P.getD k []:=⟨_,rfl⟩
  have ix:ixD (llD P) (.int (k:Int))=some (thD p):=by rw[hp];exact z2R hkP
  rw[←hp]at hpP
  have p0:0<p.length:=dE.mpr (K.ne p hpP)
  have p8:=K.pl hpP
  obtain⟨ck,ek⟩:=z4U ns k
  have v7:y0h (.int ck) (.int 7)=some (.int (ck / 7)):=z6J ⟨by omega,by omega⟩
  obtain⟨c,ec,hc⟩:=z4V (x:=ck / 7) (n:=p.length) (by omega)
  have mc:z5M (.int (ck / 7)) (.int (p.length:Int))=some (.int (c:Int)):=by rw[z3X (by omega)];exact congrArg _ (congrArg _ ec)
  have c1:cut3 (some (thD p)) (some (some (c:Int))) (some none)=some ((p.drop c).map nD):=by
   show some (z7w (p.map nD) (some (c:Int)) none)=_
   rw[y1L,←List.map_drop]
  have c2:cut3 (some (thD p)) (some none) (some (some (c:Int)))=some ((p.take c).map nD):=by
   show some (z7w (p.map nD) none (some (c:Int)))=_
   rw[y0k (by rw[ah];omega),←List.map_take]
  have tl:∀W:List Nat,D.lst (W.map nD)=thD W:=fun _=>rfl
  have ct:=cat_th (a:=p.drop c) (b:=p.take c) (by rw[cr,cq];omega)
  obtain⟨q,hq⟩:∃q,q=p.drop c++p.take c:=⟨_,rfl⟩
  rw[←hq]at ct
  have sl:=st_ll (P:=P) (q:=q) hkP
  obtain⟨W,hW⟩:∃W,W=P.set k q:=⟨_,rfl⟩
  rw[←hW]at sl
  simp_all! only[ek,v7,ix,z8K,mc,c1,c2,tl,ct,z3D,sl,z0g]
  exact⟨W,_,_,rfl,by rw[hW];exact R.set (by rw[hq,←hp];exact cat_rot)⟩
 ·rintro s ⟨P,o4,o5,rfl,R⟩
  have K:=R.ok M
  have hdO:=hd_is M R
  have hpO:hdT T P=O:=by rw[hT];exact hdO
  have hpB:hdT T P.reverse=z3b O:=by
   have:hdT T P.reverse=(z6y (P.map fun p=>p.headD 0) (at2 T)).reverse.map cN:=by
    unfold hdT
    rw[bu,y4Q]
   rw[this]
   show(hdT T P).reverse.map cN=_
   rw[hpO]
   rfl
  have tg:=R.tog M
  rw[←hT]at tg
  have sO:z5b (z0u O)=some (O.map z0S):=z5Y
  have rO:y5v (some (z0u O)) (some (.int (-1)))=some (O.reverse.map z0S):=by
   show y5v (some (.lst (O.map z0S))) _=_
   rw[z4H,bu]
  have sR:z5b (.lst (O.reverse.map z0S))=some (O.reverse.map z0S):=rfl
  have cb:∀a3 a4 a5 a6 a7 a8 a9,z2A (some (O.reverse.map z0S)) (z2l z2D (mkL (z6L (z0c 10) (d1 uNeg (dC (.int 1))))) [some (.scr ns),some (z4i O Is hs),some (z0u T),a3,a4,a5,a6,a7,a8,a9])=some ((z3b O).map z0S):=fun a3 a4 a5 a6 a7 a8 a9=>by
   unfold z3b
   rw[aJ]
   refine z2d (enc:=z0S) (xs:=O.reverse) (fun r=>z0S r.reverse) (by rw[cI];omega) fun r hr=>?_
   have rr:y5v (some (z0S r)) (some (.int (-1)))=some (r.reverse.map bD):=by
    show y5v (some (.lst (r.map bD))) _=_
    rw[z4H,bu]
   have rl:D.lst (r.reverse.map bD)=z0S r.reverse:=rfl
   simp! only[rr,rl]
  have tb:D.lst ((z3b O).map z0S)=z0u (z3b O):=rfl
  have fz:y4A 3 ([some (.sh (.scr ns)),some (.sh (z4i O Is hs)),some (.sh (z0u T)),some (.ow (llD P)),o4,o5,some (.sh (z0u (z3b O))),none,none,none]:SS)=[some (.sh (.scr ns)),some (.sh (z4i O Is hs)),some (.sh (z0u T)),some (.sh (llD P)),o4,o5,some (.sh (z0u (z3b O))),none,none,none]:=rfl
  have rP:y5v (some (llD P)) (some (.int (-1)))=some (P.reverse.map thD):=by
   show y5v (some (.lst (P.map thD))) _=_
   rw[z4H,bu]
  have lr:D.lst (P.reverse.map thD)=llD P.reverse:=rfl
  simp_all! only[je,y1R,rO,cb,tb,fz,rP,lr]
  have sT:∀ds,z5b (.lst ds)=some ds:=fun _=>rfl
  have xe:([.lst [llD P,z0u O],.lst [llD P.reverse,z0u (z3b O)]]:List D)=[(P,O),(P.reverse,z3b O)].map tlD:=rfl
  have good:∀z∈[(P,O),(P.reverse,z3b O)],Ok hs.length z.1∧(∀p∈z.1,y0j T hs.length p=true)∧hdT T z.1=z.2∧Sq O.length z.2:=fun z hz=>by
   have:z=(P,O)∨z=(P.reverse,z3b O):=by simpa using hz
   rcases this with rfl | rfl
   ·exact⟨K,tg,hpO,M.out.sq⟩
   ·exact⟨K.rev,fun p hp=>tg p (cU.mp hp),hpB,sq_back M.out.sq⟩
  rw[xe]
  refine z0E (I:=fun s=>∃o4 o5 o7 o8 o9,s=[some (.sh (.scr ns)),some (.sh (z4i O Is hs)),some (.sh (z0u T)),some (.sh (llD P)),o4,o5,some (.sh (z0u (z3b O))),o7,o8,o9]) ?_ ?_
  ·refine z4N (enc:=tlD) (xs:=[(P,O),(P.reverse,z3b O)]) (fun _ s=>∃o4 o5 o7 o8 o9,s=[some (.sh (.scr ns)),some (.sh (z4i O Is hs)),some (.sh (z0u T)),some (.sh (llD P)),o4,o5,some (.sh (z0u (z3b O))),o7,o8,o9]) ⟨_,_,_,_,_,rfl⟩ ?_ fun s z=>⟨s,rfl,z⟩
   clear fz o4 o5
   rintro pre z post e s ⟨o4,o5,o7,o8,o9,rfl⟩
   obtain⟨Kz,tz,hz,sz⟩:=good z (by rw[e];simp)
   have z0:ixD (tlD z) (.int 0)=some (llD z.1):=rfl
   have z1:ixD (tlD z) (.int 1)=some (z0u z.2):=rfl
   have zl:=Kz.len
   have sTT:z5b (z0u T)=some (T.map z0S):=z5Y
   have sZ:z5b (llD z.1)=some (z.1.map thD):=rfl
   have cT:∀a0 a1 a2 a3 a4 a5 a6 a7 a8 a9:Option D,z2A (some (T.map z0S)) (z2l z2D (z0w (z1i z2n [(z0c 10)])) [a0,a1,a2,a3,a4,a5,a6,a7,a8,a9])=some (T.map z0S):=fun a0 a1 a2 a3 a4 a5 a6 a7 a8 a9=>by
    rw[z3A (by rw[ah,sqT.1];omega)]
    exact z2f z0S fun r _=>z5B rfl
   have tl:∀W:List Nat,D.lst (W.map nD)=thD W:=fun _=>rfl
   have cZ:∀a0 a1 a2 a3 a4 a5 a6 a7 a8 a9:Option D,z2A (some (z.1.map thD)) (z2l z2D (z0w (z1i z2n [(z0c 10)])) [a0,a1,a2,a3,a4,a5,a6,a7,a8,a9])=some (z.1.map thD):=fun a0 a1 a2 a3 a4 a5 a6 a7 a8 a9=>by
    refine z2d (enc:=thD) (xs:=z.1) thD (by omega) fun p hp=>?_
    have lp:z2n [thD p]=some (p.map nD):=rfl
    simp! only[lp,z3D,tl]
   have tT:D.lst (T.map z0S)=z0u T:=rfl
   have tZ:D.lst (z.1.map thD)=llD z.1:=rfl
   have h0:atI [z0u T,llD z.1] 0=some (z0u T):=rfl
   have h1:atI [z0u T,llD z.1] 1=some (llD z.1):=rfl
   have fe:=y3H sqT h8 Kz tz
   rw[hz]at fe
   have al:=z9o sz (by omega)
   obtain⟨ds,cl⟩:=z8o sz M.pos
   have im:z7q (some [])=some []:=rfl
   have ok:okN 3 (.lst [z0u T,llD z.1]):=z7S fun d hd=>by
    have:d=z0u T∨d=llD z.1:=by simpa using hd
    rcases this with rfl | rfl
    ·exact z7Y T
    ·exact z3z fun p _=>y6Q p
   have nh:neD (.lst [z0u T,llD z.1]) (.lst [z0u T,llD z.1])=some (.bl false):=z7M ok (by omega)
   have lT:z2j [z0u T]=some (.int (hs.length:Int)):=by rw[z2S,sqT.1]
   have lp:=z9W Kz h8
   simp_all! only[sTT,cT,tT,z0,sZ,cZ,tZ,h0,h1,fe,z1,al,im,cl,nh,lT,lp,z0g]
   exact⟨_,_,_,_,_,rfl⟩
  ·rintro s ⟨o4,o5,o7,o8,o9,rfl⟩
   simp! only[z0g]

end Prg

open PySem PySem.W PyProof.Rows
set_option maxRecDepth 100000 in
set_option maxHeartbeats 0 in
theorem PySem.Challenge.cw_askorder_k74_joined_and_folded_holds : PySem.Challenge.rw_askorder_k74_joined_and_folded.Holds := by
 w_on;o_law;k_head;(case hw=>w_witness2)
 k_fill
 refine Prg.walk (l:=PySem.Challenge.rw_askorder_k74_joined_and_folded) rfl rfl Prg.law_true (fun w h Y=>PySem.W.kIn_of Y) ?F
 case F=>
  intro w mg fa h KX G hmg
  refine' Prg.all_mk KX G hmg ?fY ?fP ?eL ?fK ?e6 ?fH ?eM ?fD ?fQ ?fR ?ft ?e7 ?fu ?eT ?eP ?fw ?fx ?fy ?e8 ?eN ?eU ?eB ?eD ?gc ?gd ?c_law ?ge ?ff ?fI ?gf ?gg ?fV ?gi ?gj ?fA ?fZ ?fE ?gm ?f6 ?fS
  (case gc | gd | c_law | ge | ff | gf | gg | fV | gi | gj | fA | fZ | fE | gm | f6 | fS=>k_is)
  (case fY | fP | eL | fK | e6 | fH | eM | fD | fQ | fR | ft | e7 | fu | eT | eP | fw | fx | fy | e8 | eN | eU | eB | eD=>exact⟨_,_,by k_is,L2.fun_mk (by k_is) (by k_is) (by k_is)⟩)
  (case fI=>first | k_exc | kernel_rfl!)
