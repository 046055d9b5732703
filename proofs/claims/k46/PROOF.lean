import PyProof.Rows.All
import Wide.All
import OpenK.AllK
import Wide.FinOn
import Lean
import PyProof.EqAt
import PyProof.EqKinds
import PyProof.TupleCall
import PySem.Challenge.RW_askorder_k46_best_for_a_wish
set_option Elab.async false
set_option linter.all false
set_option maxRecDepth 100000
open PySem.W renaming Frag → aa, nsIn → aD, kitOne → aN, findIn → aV, mg_none_of → aX, kia_one → bg, fnOf → bu, keepIn → bB, mroIn → bG, exmOne → bK, specialIn → bT, excIn → cr, takesIn → cD, codeIn → cV, InstAt → cW, methodObj → dm, kitx_list → dq, plainGet → dE, instObj → dM, findObj → dN, OpenLaw → dO, lookIn → dS, mg_of → d8, clsIn → d9, cellsFrom_some → eD, looks_findIn → eM, callWith_K → eS, plainOver → eW, hasDictIn → eX
open List renaming mem_cons_self → ac, replicate → ad, mem_cons_of_mem → ae, mem_filter → af, mem_singleton → ag, range → ah, mem_cons → ai, mem_range → ak, getElem?_eq_getElem → am, length_map → ao, mem_append → au, contains_iff_mem → aw, size_toArray → ay, all_eq_true → az, nodup_cons → aA, length_append → aB, mem_append_right → aC, append_nil → aF, getElem?_map → aG, map_cons → aH, getElem?_eq_some_iff → aL, pairwise_cons → aM, nodup_append → aO, append_assoc → aP, mem_append_left → aQ, map_append → aR, take_of_length_le → aS, filter_eq_nil_iff → aT, getElem?_set_ne → aW, nodup_nil → aY, getElem?_append_left → aZ, drop_eq_getElem_cons → bb, length_cons → bc, length_filter_le → bd, mem_map → bf, getElem?_append_right → bh, drop_eq_nil_of_le → bi, replicate_succ → bj, map_map → bp, getElem?_replicate → bq, length_eq_zero_iff → bx, flatten_cons → bz, getD_eq_getElem?_getD → bE, find?_cons → bH, length_range → bJ, getElem_mem → bM, getElem_map → bN, filter_cons → bO, any_eq_true → bP, pairwise_lt_range → bR, filter_append → bS, pairwise_map → bV, getElem?_set → bW, perm_ext_iff_of_nodup → bY, length_take → bZ, length_reverse → b8, length_pos_iff → b9, filter_eq_self → ca, set_cons_zero → cc, set_cons_succ → ce, getD → cf, reverse_cons → ci, getElem?_set_self → cj, getElem?_eq_none → cv, nodup_range → cz, mem_flatten → cA, lookup_cons → cB, drop_length → cC, map_take → cE, pairwise_append → cF, nil_append → cG, take_succ_cons → cH, getElem?_range → cI, mem_or_eq_of_mem_set → cM, filter_congr → cN, any_eq_false → cO, map_drop → cP, contains_eq_any_beq → cQ, any_cons → cR, cons_append → cT, any_map → cU, range_succ → cX, length_set → cY, perm_append_comm → c5, getElem?_toArray → c6, take_zero → c8, reverse_reverse → c9, range' → dc, mem_of_getElem? → de, getElem?_of_mem → df, map_congr_left → dg, filter_sublist → dh, filterMap_cons → di, all_cons → dv, ne_nil_of_mem → dA, map_replicate → dB, append_of_mem → dD, take_add_one → dG, reverse_perm → dH, map_set → dI, map_nil → dJ, all_eq_false → dL, length_drop → dR, of_mem_zip → dX, mem_zipIdx_iff_getElem? → dY, length_nil → dZ, take_nil → eF, eq_of_mem_replicate → eG, drop_one → eJ, getElem?_cons_succ → eN, filter_cons_of_pos → eO, filter_cons_of_neg → eP, drop_of_length_le → eQ, take_append_drop → eT, length_replicate → eU, getElem?_reverse → eV, range_eq_range' → eZ, mem_iff_getElem → e9, mem_filterMap → fq, foldl → ft, find?_eq_none → fu
open Option renaming bind_some → aj, bind_none → bA, map_some → bQ, map_eq_some_iff → cg, isSome_iff_exists → cL, isSome_map → dz, getD_some → dF, isSome_some → eY, getD_none → fm
open Bool renaming and_eq_true_iff → aq, false_ne_true → av, and_eq_true → aJ, not_eq_true → br, false_eq_true → bF, eq_iff_iff → bI, false_and → cJ, true_and → cS, or_eq_true_iff → dl, not_false → el, and_false → eu, or_false → eK, not_true → eL
open Nat renaming le_refl → ar, ne_of_lt → aE, le_trans → aI, lt_of_lt_of_le → aK, zero_le → bn, lt_irrefl → bw, le_of_ble_eq_true → bU, le_of_succ_le → bX, ne_of_gt → b7, lt_succ_of_lt → ck, le_of_lt → cq, min_eq_left → cZ, le_succ_of_le → dP, min_eq_right → dU, lt_succ_self → dW, ble → ee, not_lt → eE, le_succ → ff
open Array renaming getElem?_eq_some_iff → aU, length_toList → bL, getElem?_eq_getElem → cK, getElem?_setIfInBounds_self_of_lt → c7, ext_getElem? → fg
open Int renaming zero_add → bC, toNat_natCast → dQ
noncomputable abbrev PySem.W.Fast.tw18305744900151481559:=PySem.Challenge.pw_askorder_k46_best_for_a_wish
theorem PySem.W.Fast.te18305744900151481559:PySem.Challenge.pw_askorder_k46_best_for_a_wish=PySem.W.Fast.tw18305744900151481559:=rfl
open PySem renaming Shared → dw, Program → fw, World → fx, FuncData → fy, assignEach → fA, behindInMarks → fB, backTo → fD, bootBuiltins → fE, assign → fF, attributeBase → fG, Keyword → fH, Scope → fI, cLine → fK
open PyProof.Rows renaming IntsAre → fJ
local macro_rules|`(⋯)=>`(by omega)
local macro_rules|`(∅)=>`(Or.inl rfl)
local macro_rules|`(nofun)=>`(by decide)
abbrev LB:=List (List Bool)
abbrev AO:=List (PySem.Addr×PySem.Obj)
namespace PySem.W.Fast
def tw14882958995088114009:=0
def tw7631618278406189709:=0
def tw8313477971980966208:=0
def tw16776386185511542625:=0
def tw15017658791978845212:=0
def tw18290640942064303054:=0
def tw11793610625628653713:=0
def tw4936145596843900181:=0
def tw12296587870523651202:=0
def tw13992731542229986478:=0
def tw1249611990686652434:=0
def tw12020892706411306224:=0
def tw14696861024393470119:=0
def tw6067397108747939474:=0
def tw16650180859822431148:=0
def tw3475269024469422390:=0
def tw17426854920793639890:=0
def tw12330891995486712273:=0
def tw1214771012248658474:=0
end PySem.W.Fast
namespace L2
open PySem PySem.Spec PyProof.Rows
abbrev Key:=Sum Int Str
def y2e:Key->Value->Bool
 |.inl k,v=>Value.isInt k v
 |.inr x,v=>Value.isStrOf x v
def keyH(w:fx):Key->Int
 |.inl k=>hashInt k
 |.inr x=>hashStr w x
theorem z0S:∀{k:Key} {v:Value},y2e k v=true->(∃i t,k=Sum.inl i∧v=Value.int i t)∨(∃x t,k=Sum.inr x∧v=Value.str x t)
 |.inl i,v,h=>by
  obtain⟨t,e⟩:=Value.isInt_shape (k:=i) (v:=v) h
  exact .inl ⟨i,t,rfl,e⟩
 |.inr x,v,h=>by
  obtain⟨t,e⟩:=Value.isStrOf_shape (x:=x) (v:=v) h
  exact .inr ⟨x,t,rfl,e⟩
theorem y8A(i:Int)(t:Tok):y2e (.inl i) (.int i t)=true:=by simp[y2e,Value.isInt]
theorem y6C(x:Str)(t:Tok):y2e (.inr x) (.str x t)=true:=by simp[y2e,Value.isStrOf]
theorem key_ll(a b:Int):decide ((Sum.inl a:Key)=Sum.inl b)=(a==b):=by
 by_cases e:a=b
 ·subst e;simp
 ·have h:¬ (Sum.inl a:Key)=Sum.inl b:=fun q=>e (Sum.inl.inj q)
  rw[decide_eq_false h]
  exact(beq_eq_false_iff_ne.mpr e).symm
theorem key_rr(a b:Str):decide ((Sum.inr a:Key)=Sum.inr b)=decide (a=b):=by
 by_cases e:a=b
 ·subst e;simp
 ·have h:¬ (Sum.inr a:Key)=Sum.inr b:=fun q=>e (Sum.inr.inj q)
  rw[decide_eq_false h,decide_eq_false e]
theorem key_lr(a:Int)(b:Str):decide ((Sum.inl a:Key)=Sum.inr b)=false:=decide_eq_false (fun q=>nomatch q)
theorem key_rl(a:Str)(b:Int):decide ((Sum.inr a:Key)=Sum.inl b)=false:=decide_eq_false (fun q=>nomatch q)
def z1l(prog:fw)(w:fx):PySem.KeyKind prog w Key where
 is:=y2e
 hash:=keyH w
 inj:=fun v a b ha hb=>by
  rcases z0S ha with⟨i,t,rfl,rfl⟩ | ⟨x,t,rfl,rfl⟩
  ·rcases z0S hb with⟨j,u,rfl,e⟩ | ⟨y,u,rfl,e⟩
   ·injection e with e1 _;rw[e1]
   ·exact nomatch e
  ·rcases z0S hb with⟨j,u,rfl,e⟩ | ⟨y,u,rfl,e⟩
   ·exact nomatch e
   ·injection e with e1 _;rw[e1]
 byValue:=fun k v h=>by
  rcases z0S h with⟨i,t,rfl,rfl⟩ | ⟨x,t,rfl,rfl⟩ <;> rfl
 pyHash:=fun hv h=>by
  rcases z0S hv with⟨i,t,rfl,rfl⟩ | ⟨x,t,rfl,rfl⟩
  ·exact wpAny_pyHash_int h
  ·exact wpAny_pyHash_str h
 eqBool:=fun hu hv h=>by
  rcases z0S hu with⟨i,t,rfl,rfl⟩ | ⟨x,t,rfl,rfl⟩
  ·rcases z0S hv with⟨j,u,rfl,rfl⟩ | ⟨y,u,rfl,rfl⟩
   ·rw[key_ll]at h;exact wpAny_eqBool_int h
   ·rw[key_lr]at h;exact SeqAt.EqAt.int_str i t y u _ _ _ _ h
  ·rcases z0S hv with⟨j,u,rfl,rfl⟩ | ⟨y,u,rfl,rfl⟩
   ·rw[key_rl]at h;exact SeqAt.EqAt.str_int x t j u _ _ _ _ h
   ·rw[key_rr]at h;exact wpAny_eqBool_str h
 «strs»:=fun k x t v h=>by
  rcases z0S h with⟨i,u,rfl,e⟩ | ⟨y,u,rfl,e⟩
  ·exact nomatch e
  ·injection e with e1 _
   subst e1
   cases v <;> rfl
theorem y3n(prog:fw)(w:fx)(i:Int)(t:Tok):(z1l prog w).is (.inl i) (.int i t)=true:=y8A i t
theorem y2A(prog:fw)(w:fx)(x:Str)(t:Tok):(z1l prog w).is (.inr x) (.str x t)=true:=y6C x t
inductive V where
 |non | bl (b:Bool) | int (i:Int) | str (x:Str) | byt (b:Array UInt8) | flt (b:UInt64) | ref (a:Addr) | ty (n:String)
 deriving DecidableEq
def RelV:V->Value->Prop
 |.non,u=>u=Value.none
 |.bl b,u=>u=Value.bool b
 |.int i,u=>∃t,u=Value.int i t
 |.str x,u=>∃t,u=Value.str x t
 |.byt b,u=>∃t,u=Value.bytes b t
 |.flt b,u=>∃t,u=Value.float b t
 |.ref a,u=>u=Value.ref a
 |.ty n,u=>u=Value.type n
abbrev Vals:List V->List Value->Prop:=Paired RelV
theorem Vals.length{xs:List V}{us:List Value}(r:Vals xs us):xs.length=us.length:=Paired.length r
theorem Vals.get:∀{xs:List V} {us:List Value} {i:Nat} {x:V},Vals xs us->xs[i]? = some x->∃u,us[i]? = some u∧RelV x u
 |_,_,_,_,.nil,e=>by simp at e
 |_,_,0,_,.cons r _,e=>by simp at e;subst e;exact⟨_,rfl,r⟩
 |_,_,i+1,x,.cons _ t,e=>by
  obtain⟨u,h1,h2⟩:=Vals.get (i:=i) (x:=x) t (by simpa using e)
  exact⟨u,by simpa using h1,h2⟩
theorem Vals.set{x:V}{u:Value}(r:RelV x u):∀{xs:List V} {us:List Value} (i:Nat),Vals xs us->Vals (xs.set i x) (us.set i u)
 |_,_,_,.nil=>.nil
 |_,_,0,.cons _ t=>.cons r t
 |_,_,i+1,.cons q t=>.cons q (Vals.set r i t)
theorem Vals.append:∀{xs ys:List V} {us ws:List Value},Vals xs us->Vals ys ws->Vals (xs++ys) (us++ws)
 |_,_,_,_,.nil,s=>s
 |_,_,_,_,.cons r t,s=>.cons r (Vals.append t s)
theorem Vals.take:∀{xs:List V} {us:List Value} (n:Nat),Vals xs us->Vals (xs.take n) (us.take n)
 |_,_,0,_=>.nil
 |_,_,_+1,.nil=>.nil
 |_,_,n+1,.cons r t=>.cons r (Vals.take n t)
theorem Vals.drop:∀{xs:List V} {us:List Value} (n:Nat),Vals xs us->Vals (xs.drop n) (us.drop n)
 |_,_,0,r=>r
 |_,_,_+1,.nil=>.nil
 |_,_,n+1,.cons _ t=>Vals.drop n t
def RelO:Option V->Option Value->Prop
 |some v,some u=>RelV v u
 |none,none=>True
 |_,_=>False
def KV{κ:Type}:List (κ×V)->List (κ×Value)->Prop:=Paired fun(p:κ×V) (q:κ×Value)=>p.1=q.1∧RelV p.2 q.2
def kV:Key->V
 |.inl i=>.int i
 |.inr x=>.str x
inductive HO where
 |lst (xs:List V)
 |tup (xs:List V)
 |dK (kvs:List (Key×V)) | dT (kvs:List (List Key×V))
 |set (S:Int->Bool) (n:Nat)
 |ins (C dx:Addr) (fs:List (Str×V))
 |own (x:Addr)
 |xd (fs:List (Str×V))
 |met (f x:Addr)
 |rng (lo hi:Int)
 |frz (o:Obj) (u:HO)
 |tbl (ps:Array Value)
 |ext (φ:Heap->Prop)
abbrev Hp:=Addr->Option HO
def upd(H:Hp)(a:Addr)(o:HO):Hp:=fun b=>if b=a then some o else H b
theorem z0r{H:Hp}{a:Addr}{o:HO}:upd H a o a=some o:=by unfold upd;rw[if_pos rfl]
theorem z0y{H:Hp}{a b:Addr}{o:HO}(h:b≠a):upd H a o b=H b:=by unfold upd;rw[if_neg h]
theorem ne_of{H:Hp}{a b:Addr}{o u:HO}(h:H a=some o)(h':H b=some u)(d:o≠u):a≠b:=by
 intro e;subst e;rw[h]at h';exact d (Option.some.inj h')
theorem z1o{H:Hp}{a b:Addr}{o:HO}(h:H a=some o)(h':H b=none):a≠b:=by
 intro e;subst e;rw[h]at h';cases h'
section
variable(P:fw)(w:fx)
def TupN(h:Heap)(a:Addr)(items:Array Value):Prop:=∃o,h.get? a=some o∧(o.cls = .type "tuple" ∧ o.dict=none)∧∃n,o.data = .seq items n
theorem TupN.is{h:Heap}{a:Addr}{items:Array Value}(x:TupN h a items):IsTup h a items:=let⟨o,e,c,n⟩:=x;⟨o,e,c.1,n⟩
theorem TupN.lt{h:Heap}{a:Addr}{items:Array Value}(x:TupN h a items):a<h.objs.size:=x.is.lt
theorem TupN.new(h:Heap)(items:Array Value):TupN (h.push { cls:=.type "tuple",data:=.seq items }) h.objs.size items:=⟨_,Heap.get?_push_size _ rfl,⟨rfl,rfl⟩,_,rfl⟩
def ObjOk(H:Hp)(h:Heap)(a:Addr):HO->Prop
 |.lst xs=>xs.length≤sizeLine∧∃(its:List Value) (n:Nat),Vals xs its∧h.get? a=some { cls:=.type "list",data:=.seq its.toArray n }
 |.tup xs=>xs.length≤sizeLine∧∃its:List Value,Vals xs its∧TupN h a its.toArray
 |.dK kvs=>kvs.length≤sizeLine∧(a==sysModules)=false∧∃vs,KV kvs vs∧h.DictOf (z1l P w) a vs
 |.dT kvs=>kvs.length≤sizeLine∧(a==sysModules)=false∧∃xs:List (List Key×Addr×Value),
   Paired (fun(p:List Key×V) (q:List Key×Addr×Value)=>p.1=q.1∧H q.2.1=some (.tup (p.1.map kV))∧RelV p.2 q.2.2) kvs xs ∧
   ∃o es ep,h.get? a=some o∧o.ExactDict∧o.data = .dict es ep∧es.toList=xs.map (entryOfKey (tupleKind (z1l P w)))∧(xs.map (·.1)).Nodup
 |.set S n=>h.SetOf (intKind P w) a S n
 |.ins C dx fs=>H dx=some (.own a)∧fs.length≤1000∧dx≠a∧h.get? a=some (dM C dx) ∧
   ∃mA,h.Ns1 dx mA∧(∀f,RelO (fs.lookup f) (mA f))∧PySem.Within mA (fs.map (·.1))
 |.own _=>∃o,h.get? a=some o
 |.xd fs=>∃mA,h.Ns1 a mA∧∀f,RelO (fs.lookup f) (mA f)
 |.rng lo hi=>∃t u v,h.get? a=some { cls:=.type "range",data:=.fields #[.int lo t,.int hi u,.int 1 v] }
 |.frz o u=>h.get? a=some o∧ObjOk H h a u
 |.tbl ps=>h.get? a=some { cls:=.none,data:=.fields ps }
 |.met f x=>h.get? a=some (dm (.ref f) (.ref x))
 |.ext φ=>φ h∧(∃o,h.get? a=some o)∧∀h1 h2:Heap,φ h1->(∀o,h1.get? a=some o->h2.get? a=some o)->φ h2
def HOk(H:Hp)(h:Heap):Prop:=∀a o,H a=some o->ObjOk P w H h a o
end
section
variable{P:fw}{w:fx}{H H':Hp}{h h':Heap}{a:Addr}{o:HO}
theorem ObjOk.lt(x:ObjOk P w H h a o):a<h.objs.size:=by
 cases o with
 |lst xs=>obtain⟨_,_,_,_,e⟩:=x;exact Heap.lt_size e
 |tup xs=>obtain⟨_,_,_,p⟩:=x;exact p.lt
 |dK kvs=>obtain⟨_,_,_,_,o,_,_,e,_⟩:=x;exact Heap.lt_size e
 |dT kvs=>obtain⟨_,_,_,_,o,_,_,e,_⟩:=x;exact Heap.lt_size e
 |set S n=>obtain⟨o,_,_,_,e,_⟩:=x;exact Heap.lt_size e
 |ins C dx fs=>obtain⟨_,_,_,e,_⟩:=x;exact Heap.lt_size e
 |own y=>obtain⟨_,e⟩:=x;exact Heap.lt_size e
 |xd fs=>obtain⟨_,⟨_,_,_,e,_⟩,_⟩:=x;exact Heap.lt_size e
 |rng lo hi=>obtain⟨_,_,_,e⟩:=x;exact Heap.lt_size e
 |frz ob u=>obtain⟨e,_⟩:=x;exact Heap.lt_size e
 |tbl ps=>exact Heap.lt_size (show h.get? a=some _ from x)
 |met f y=>exact Heap.lt_size (show h.get? a=some _ from x)
 |ext φ=>obtain⟨_,⟨_,e⟩,_⟩:=x;exact Heap.lt_size e
theorem Paired.mapP{α β:Type}{F G:α->β->Prop}:∀{l₁:List α} {l₂:List β},Paired F l₁ l₂->(∀a b,F a b->G a b)->Paired G l₁ l₂
 |_,_,.nil,_=>.nil
 |_,_,.cons r t,f=>.cons (f _ _ r) (Paired.mapP t f)
theorem ObjOk.stay(x:ObjOk P w H h a o)(k:∀b u,(b=a∨H b=some (.own a))->h.get? b=some u->h'.get? b=some u)
  (ho:∀b,H b=some (.own a)->H' b=some (.own a)) (ht:∀b xs,H b=some (.tup xs)->H' b=some (.tup xs)):ObjOk P w H' h' a o:=by
 induction o with
 |lst xs=>obtain⟨z,its,n,r,e⟩:=x;exact⟨z,its,n,r,k _ _ (.inl rfl) e⟩
 |tup xs=>obtain⟨z,its,r,ob,e,c⟩:=x;exact⟨z,its,r,ob,k _ _ (.inl rfl) e,c⟩
 |dK kvs=>obtain⟨z,y,vs,r,ob,es,ep,e,c⟩:=x;exact⟨z,y,vs,r,ob,es,ep,k _ _ (.inl rfl) e,c⟩
 |dT kvs=>
  obtain⟨z,y,xs,r,ob,es,ep,e,c⟩:=x
  exact⟨z,y,xs,Paired.mapP r fun p q z=>⟨z.1,ht _ _ z.2.1,z.2.2⟩,ob,es,ep,k _ _ (.inl rfl) e,c⟩
 |set S n=>obtain⟨ob,es,ep,t,e,c⟩:=x;exact⟨ob,es,ep,t,k _ _ (.inl rfl) e,c⟩
 |ins C dx fs=>
  obtain⟨d,z,ne,e,mA,⟨od,es,ep,e2,c⟩,r⟩:=x
  exact⟨ho _ d,z,ne,k _ _ (.inl rfl) e,mA,⟨od,es,ep,k _ _ (.inr d) e2,c⟩,r⟩
 |own y=>obtain⟨ob,e⟩:=x;exact⟨ob,k _ _ (.inl rfl) e⟩
 |xd fs=>obtain⟨mA,⟨od,es,ep,e,c⟩,r⟩:=x;exact⟨mA,⟨od,es,ep,k _ _ (.inl rfl) e,c⟩,r⟩
 |rng lo hi=>obtain⟨t,u,v,e⟩:=x;exact⟨t,u,v,k _ _ (.inl rfl) e⟩
 |frz ob u ih=>obtain⟨e,q⟩:=x;exact⟨k _ _ (.inl rfl) e,ih q⟩
 |tbl ps=>
  have e:h.get? a=some { cls:=.none,data:=.fields ps }:=x
  show h'.get? a=some { cls:=.none,data:=.fields ps }
  exact k a _ (.inl rfl) e
 |met f y=>
  have e:h.get? a=some (dm (.ref f) (.ref y)):=x
  show h'.get? a=some (dm (.ref f) (.ref y))
  exact k a _ (.inl rfl) e
 |ext φ=>obtain⟨p,⟨o,e⟩,st⟩:=x;exact⟨st _ _ p fun o q=>k _ _ (.inl rfl) q,⟨o,k _ _ (.inl rfl) e⟩,st⟩
theorem HOk.lt(x:HOk P w H h)(e:H a=some o):a<h.objs.size:=(x a o e).lt
theorem HOk.fresh(x:HOk P w H h)(e:h.objs.size≤a):H a=none:=by
 cases q:H a with
 |none=>rfl
 |some u=>exact absurd (aK (x.lt q) e) (bw _)
theorem HOk.kept(x:HOk P w H h)(k:∀b u,h.get? b=some u->h'.get? b=some u):HOk P w H h':=fun a o e=>
 (x a o e).stay (fun b u _ q=>k b u q) (fun _ q=>q) fun _ _ q=>q
theorem HOk.laid(x:HOk P w H h)(k:∀b u,h.get? b=some u->h'.get? b=some u)(hp:h.objs.size≤a)(new:ObjOk P w (upd H a o) h' a o):HOk P w (upd H a o) h':=fun b u e=>by
 have hn:=x.fresh hp
 by_cases hb:b=a
 ·subst hb;rw[z0r]at e;cases e;exact new
 ·rw[z0y hb]at e
  exact(x b u e).stay (fun c v _ q=>k c v q) (fun c q=>by rw[z0y (z1o q hn)];exact q) fun c xs q=>by rw[z0y (z1o q hn)];exact q
end
def Rd(H:Hp)(a:Addr)(u:HO):Prop:=H a=some u∨∃o,H a=some (.frz o u)
theorem Rd.ok{P:fw}{w:fx}{H:Hp}{h:Heap}{a:Addr}{u:HO}(r:Rd H a u)(x:HOk P w H h):ObjOk P w H h a u:=by
 rcases r with r | ⟨o,r⟩
 ·exact x a u r
 ·obtain⟨_,q⟩:=x a _ r
  exact q
def Mut:Option HO->Prop
 |some (.lst _)=>True
 |some (.dK _)=>True
 |some (.dT _)=>True
 |some (.set _ _)=>True
 |some (.ins _ _ _)=>True
 |some (.ext _)=>True
 |_=>False
section
variable{P:fw}{w:fx}{H:Hp}{h h':Heap}{x e:Addr}{o':HO}
theorem HOk.write(ok:HOk P w H h)(mu:Mut (H x))(he:e=x∨H e=some (.own x))(k:∀b u,b≠e->h.get? b=some u->h'.get? b=some u)(heo:∃u,h'.get? e=some u)
  (new:ObjOk P w (upd H x o') h' x o'):HOk P w (upd H x o') h':=fun b u q=>by
 have nown:∀c y,H c=some (.own y)->c≠x:=fun c y r z=>by subst z;rw[r]at mu;exact mu
 have ntup:∀c xs,H c=some (.tup xs)->c≠x:=fun c xs r z=>by subst z;rw[r]at mu;exact mu
 by_cases hb:b=x
 ·subst hb;rw[z0r]at q;cases q;exact new
 ·rw[z0y hb]at q
  by_cases hbe:b=e
  ·have q':H b=some (.own x):=by
    rcases he with z | z
    ·exact absurd (hbe.trans z) hb
    ·rw[hbe];exact z
   rw[q]at q';cases q'
   obtain⟨v,hv⟩:=heo
   exact⟨v,by rw[hbe];exact hv⟩
  ·refine(ok b u q).stay (fun c v hc r=>k c v ?_ r) (fun c r=>by rw[z0y (nown c b r)];exact r) fun c xs r=>by rw[z0y (ntup c xs r)];exact r
   rcases hc with rfl | hc
   ·exact hbe
   ·rintro rfl
    rcases he with z | z
    ·exact nown c b hc z
    ·rw[hc]at z;cases z;exact hb rfl
end
structure Un(fs ex:List Addr)(H H':Hp)(h h':Heap):Prop where
 keep:∀b o,h.get? b=some o->H b=none->b∉fs->b∉ex->h'.get? b=some o
 slot:∀b o,h.get? b=some o->H b=none->b∈fs->b∉ex->∃sl,h'.get? b=some { o with slots:=sl }
 free:∀b o,h.get? b=some o->H b=none->b∉ex->H' b=none
 there:∀b o,h.get? b=some o->b∉ex->∃o',h'.get? b=some o'
 tups:∀b xs,H b=some (.tup xs)->H' b=some (.tup xs)
 frzs:∀b o u,H b=some (.frz o u)->H' b=some (.frz o u)
 tbls:∀b ps,H b=some (.tbl ps)->∃more,H' b=some (.tbl (ps++more))
section
variable{fs ex:List Addr}{H H1:Hp}{h h1 h':Heap}{a x e:Addr}{o:HO}
theorem Un.any(u:Un fs ex H H1 h h1){b:Addr}{ob:Obj}(q:h.get? b=some ob)(n:H b=none)(hx:b∉ex):∃sl,h1.get? b=some { ob with slots:=sl }:=by
 by_cases hb:b∈fs
 ·exact u.slot b ob q n hb hx
 ·exact⟨ob.slots,u.keep b ob q n hb hx⟩
theorem Un.kept(k:∀b u,h.get? b=some u->h'.get? b=some u):Un fs ex H H h h':=
 ⟨fun b ob q _ _ _=>k b ob q,fun b ob q _ _ _=>⟨ob.slots,k b ob q⟩,fun _ _ _ n _=>n,fun b ob q _=>⟨ob,k b ob q⟩,fun _ _ q=>q,fun _ _ _ q=>q,fun _ ps q=>⟨#[],by rw[q];simp⟩⟩
theorem Un.refl:Un fs ex H H h h:=Un.kept fun _ _ q=>q
theorem Un.laid(k:∀b u,h.get? b=some u->h'.get? b=some u)(hp:h.objs.size≤a)(hn:H a=none):Un fs ex H (upd H a o) h h' where
 keep:=fun b u q _ _ _=>k b u q
 slot:=fun b u q _ _ _=>⟨u.slots,k b u q⟩
 free:=fun b u q n _=>by rw[z0y (aE (aK (Heap.lt_size q) hp))];exact n
 there:=fun b u q _=>⟨u,k b u q⟩
 tups:=fun b xs q=>by rw[z0y (z1o q hn)];exact q
 frzs:=fun b u xs q=>by rw[z0y (z1o q hn)];exact q
 tbls:=fun b ps q=>⟨#[],by rw[z0y (z1o q hn),q];simp⟩
theorem Un.write(mu:Mut (H x))(he:e=x∨H e=some (.own x))(k:∀b u,b≠e->h.get? b=some u->h'.get? b=some u)(heo:∃u,h'.get? e=some u):Un fs ex H (upd H x o) h h':=by
 have hx:∀b,H b=none->b≠x:=fun b n z=>by subst z;rw[n]at mu;exact mu
 have hb:∀b,H b=none->b≠e:=fun b n z=>by
  subst z
  rcases he with r | r
  ·exact hx b n r
  ·rw[n]at r;cases r
 have hm:∀b u,H b=some u->¬ Mut (some u)->b≠x:=fun b u q nm z=>by subst z;rw[q]at mu;exact nm mu
 refine⟨fun b u q n _ _=>k b u (hb b n) q,fun b u q n _ _=>⟨u.slots,k b u (hb b n) q⟩,fun b u q n _=>by rw[z0y (hx b n)];exact n,fun b u q _=>?_,
  fun b xs q=>by rw[z0y (hm b _ q fun z=>z)];exact q,fun b u xs q=>by rw[z0y (hm b _ q fun z=>z)];exact q,fun b ps q=>⟨#[],by rw[z0y (hm b _ q fun z=>z),q];simp⟩⟩
 by_cases hbe:b=e
 ·subst hbe;exact heo
 ·exact⟨u,k b u hbe q⟩
end
def trk(h:Heap)(H:Hp):List Addr:=(ah h.objs.size).filter fun a=>(H a).isSome
def x0V(h:Heap)(H:Hp):Heap:=PySem.W.hideAll h (trk h H)
theorem y9M(h:Heap)(H:Hp):(x0V h H).objs.size=h.objs.size:=PySem.W.hideAll_size _ _
theorem x1x{h:Heap}{H:Hp}{b:Addr}{o:Obj}(e:h.get? b=some o)(n:H b=none):(x0V h H).get? b=some o:=
 PySem.W.hideAll_get _ e fun hm=>by
  have q:(H b).isSome=true:=(af.mp hm).2
  rw[n]at q;simp at q
theorem of_hidT{h:Heap}{H:Hp}{b:Addr}{o:Obj}(e:(x0V h H).get? b=some o):h.get? b=some o∧H b=none:=by
 have e':h.get? b=some o:=PySem.W.of_hideAll (trk h H) e
 refine⟨e',?_⟩
 cases q:H b with
 |none=>rfl
 |some x=>
  have hm:b∈trk h H:=af.mpr ⟨ak.mpr (Heap.lt_size e'),by simp[q]⟩
  have z:(x0V h H).get? b=none:=PySem.W.hideAll_none (trk h H) hm
  rw[z]at e;cases e
def allNews(g h:Heap)(L:Addr):AO:=(ah h.objs.size).filterMap fun a=>if a=L∨(g.get? a).isSome=true then none else(h.get? a).map fun o=>(a,o)
def rest(g h:Heap)(L d:Addr):AO:=(allNews g h L).filter fun p=>decide (p.1≠d)
structure Mod(K:aa)(mg:Str->Option Value)(base:Heap):Prop where
 kin:K.In base
 glob:base.Ns mainGlobals mg
 blt:∃mb,base.Ns builtinsNs mb∧∀x:Str,x ≠ "__name__" → mb x=fE x
 nolimit:base.NoLimit
structure Cx where
 prog:fw
 w:fx
 K:aa
 mg:Str->Option Value
 base:Heap
 A:Around
 N:List Str
 s₀:dw
 H₀:Hp
 env:Env
 outer:List Env
 stack:List Env
 ex:List Addr
 fn:Str->Bool
 calm:Bool
 pn:AO
 xe:Value->dw->Prop
def frs(l:List Env):List Addr:=l.filterMap (·.frame)
abbrev Cx.fs(X:Cx):List Addr:=frs X.outer
def Vis(sc:fI)(x:Str):Prop:=sc.names.lookup x=some .local∨sc.names.lookup x=some .cell∨sc.names.lookup x=some .free
def Loc(sc:fI)(x:Str):Prop:=sc.names.lookup x=some .local∨sc.names.lookup x=some .cell
def Look(env:Env)(h:Heap)(m:Str->Option Value)(x:Str)(u:Value):Prop:=
 (env.kindOf x=some .local∧m x=some u)∨((env.kindOf x=some .cell∨env.kindOf x=some .free)∧∃c,env.cells.lookup x=some c∧h.IsCell c (some u))
structure Cx.Ok(X:Cx):Prop where
 mod:Mod X.K X.mg X.base
 kind:X.env.scope.kind = .function
 glob:X.env.globals=mainGlobals
 blt:X.env.builtins=builtinsNs
 above:X.s₀.heap.objs.size≤X.env.locals
 inj:∀x y c,X.env.cells.lookup x=some c->X.env.cells.lookup y=some c->x=y
 has:∀x,(X.env.kindOf x=some .cell∨X.env.kindOf x=some .free)->∃c,X.env.cells.lookup x=some c
 cab:∀x c,X.fn x=true->X.env.cells.lookup x=some c->X.s₀.heap.objs.size≤c
 hd:X.calm=true->X.A.handled=none
 frames:X.A.frames=some X.stack
 stk:X.stack=X.outer∨(X.stack=X.env::X.outer∧X.env.frame=some X.env.locals)
 exf:∀b∈X.ex,b≠X.env.locals∧∀x c,X.env.cells.lookup x=some c->c≠b
 bs:∀b o,X.base.get? b=some o->X.s₀.heap.get? b=some o∧X.H₀ b=none
 bsz:X.base.objs.size≤X.s₀.heap.objs.size
 noex:∀b o,X.base.get? b=some o->b∉X.ex
 exfs:∀b∈X.ex,b∉X.fs
 funs:X.s₀.heap.FunFrames X.base X.outer
 frf:∀b∈X.fs,X.H₀ b=none
structure Inv(X:Cx)(pins:AO)(σ:List (Option V))(H:Hp)(s:dw):Prop where
 ok:X.Ok
 os:s.os=X.s₀.os
 bare:AllBare s.gens
 base:Un X.fs X.ex X.H₀ H X.s₀.heap s.heap
 loc:∃m,s.heap.Ns X.env.locals m∧∀(i:Nat) (x:Str) (v:V),X.N[i]? = some x->σ[i]? = some (some v)->Vis X.env.scope x->∃u,RelV v u∧Look X.env s.heap m x u
 cell:∀x c,X.env.cells.lookup x=some c->∃v,s.heap.IsCell c v
 free:H X.env.locals=none
 freeC:∀x c,X.env.cells.lookup x=some c->H c=none
 pin:∀p∈X.pn++pins,s.heap.get? p.1=some p.2∧H p.1=none∧p.1≠X.env.locals∧p.1∉X.fs∧∀v,p.2.data≠.cell v
 hok:HOk X.prog X.w H s.heap
 len:σ.length=X.N.length
section
variable{X:Cx}{pins:AO}{σ:List (Option V)}{H H':Hp}{s:dw}{h':Heap}
theorem Cx.Ok.nofr(ok:X.Ok){b:Addr}{o:Obj}(e:X.base.get? b=some o):b∉X.fs:=fun hb=>by
 have:=(ok.funs.mem hb).1
 rw[e]at this;cases this
theorem Inv.bs(I:Inv X pins σ H s):∀b o,X.base.get? b=some o->s.heap.get? b=some o∧H b=none:=fun b o e=>
 ⟨I.base.keep b o (I.ok.bs b o e).1 (I.ok.bs b o e).2 (I.ok.nofr e) (I.ok.noex b o e),I.base.free b o (I.ok.bs b o e).1 (I.ok.bs b o e).2 (I.ok.noex b o e)⟩
theorem Inv.bk(I:Inv X pins σ H s):∀b o,X.base.get? b=some o->s.heap.get? b=some o:=fun b o e=>(I.bs b o e).1
theorem Inv.mod(I:Inv X pins σ H s):Mod X.K X.mg X.base:=I.ok.mod
theorem Inv.kIn(I:Inv X pins σ H s):X.K.In s.heap:=I.ok.mod.kin.keeps I.bk
theorem Inv.lt(I:Inv X pins σ H s):X.env.locals<s.heap.objs.size:=let⟨_,hn,_⟩:=I.loc;hn.lt
theorem Inv.sz(I:Inv X pins σ H s):X.s₀.heap.objs.size≤s.heap.objs.size:=aI I.ok.above (cq I.lt)
theorem Inv.nofs(I:Inv X pins σ H s){a:Addr}(h:s.heap.objs.size≤a):a∉X.fs:=fun hb=>by
 obtain⟨_,o,ho,_⟩:=I.ok.funs.mem hb
 exact absurd (aK (Heap.lt_size ho) (aI I.sz h)) (bw _)
theorem Inv.cne(I:Inv X pins σ H s):∀x c,X.env.cells.lookup x=some c->c≠X.env.locals:=fun x c e z=>by
 obtain⟨v,o,ho,hd⟩:=I.cell x c e
 obtain⟨m,⟨o',es,ep,ho',hd',_⟩,_⟩:=I.loc
 rw[z,ho']at ho;cases ho;rw[hd']at hd;cases hd
theorem Inv.funs(I:Inv X pins σ H s):s.heap.FunFrames X.base X.outer:=by
 have all:∀(l:List Env),(∀b∈frs l,b∈X.fs)->X.s₀.heap.FunFrames X.base l->s.heap.FunFrames X.base l:=by
  intro l
  induction l with
  |nil=>intro _ _;trivial
  |cons env r ih=>
   intro hs hl
   obtain⟨hk,⟨L,o,hf,hn,ho,hd⟩,hr⟩:=hl
   have hL:L∈X.fs:=hs L (by unfold frs;rw[di,hf];exact ac)
   obtain⟨sl,e⟩:=I.base.slot L o ho (I.ok.frf L hL) hL fun z=>I.ok.exfs L z hL
   exact⟨hk,⟨L,_,hf,hn,e,hd⟩,ih (fun b hb=>hs b (by unfold frs;rw[di,hf];exact ae _ hb)) hr⟩
 exact all X.outer (fun _ hb=>hb) I.ok.funs
theorem Inv.stack(I:Inv X pins σ H s):s.heap.FunFrames X.base X.stack:=by
 rcases I.ok.stk with e | ⟨e,hf⟩
 ·rw[e];exact I.funs
 ·rw[e]
  obtain⟨m,hn,_⟩:=I.loc
  refine .cons (by rw[I.ok.kind];decide) hf hn ?_ I.funs
  exact Heap.get?_none_of_le (aI I.ok.bsz I.ok.above)
theorem Inv.stkSub(I:Inv X pins σ H s):∀b∈frs X.stack,b∈X.env.locals::X.fs:=fun b hb=>by
 rcases I.ok.stk with e | ⟨e,hf⟩
 ·rw[e]at hb;exact ae _ hb
 ·rw[e]at hb
  unfold frs at hb
  rw[di,hf]at hb
  exact hb
theorem Inv.stkFree(I:Inv X pins σ H s):∀b∈frs X.stack,H b=none:=fun b hb=>by
 rcases ai.mp (I.stkSub b hb)with e | hb
 ·rw[e];exact I.free
 ·obtain⟨_,o,ho,_⟩:=I.ok.funs.mem hb
  exact I.base.free b o ho (I.ok.frf b hb) fun z=>I.ok.exfs b z hb
theorem Inv.step{g':Array GenState}{t':Nat}{d':Drawn}{ch:List Addr}(I:Inv X pins σ H s)
  (hch:∀b∈ch,(b∈X.ex∨X.s₀.heap.objs.size≤b)∧b≠X.env.locals∧(∀x c,X.env.cells.lookup x=some c->c≠b)∧∀p∈X.pn++pins,p.1≠b)
  (keep:∀b o,b≠X.env.locals->b∉X.fs->b∉ch->s.heap.get? b=some o->H b=none->h'.get? b=some o)
  (slot:∀b o,b≠X.env.locals->b∈X.fs->b∉ch->s.heap.get? b=some o->H b=none->∃sl,h'.get? b=some { o with slots:=sl }) (free:∀b o,b∉ch->s.heap.get? b=some o->H b=none->H' b=none)
  (there:∀b o,b∉ch->s.heap.get? b=some o->∃o',h'.get? b=some o')
  (tups:∀b xs,H b=some (.tup xs)->H' b=some (.tup xs)) (frzs:∀b o u,H b=some (.frz o u)->H' b=some (.frz o u)) (tbls:∀b ps,H b=some (.tbl ps)->∃more,H' b=some (.tbl (ps++more)))
  (ns:∀m,s.heap.Ns X.env.locals m->h'.Ns X.env.locals m) (hok:HOk X.prog X.w H' h') (hg:AllBare g'):
  Inv X pins σ H' { s with heap:=h',gens:=g',drawn:=d',toks:=t' }:=by
 have neL:∀b o,X.s₀.heap.get? b=some o->b≠X.env.locals:=fun b o e=>aE (aK (Heap.lt_size e) I.ok.above)
 have neC:∀b o,X.s₀.heap.get? b=some o->b∉X.ex->b∉ch:=fun b o e hx hb=>by
  rcases (hch b hb).1 with z | z
  ·exact hx z
  ·exact absurd (aK (Heap.lt_size e) z) (bw _)
 have cellK:∀x c,X.env.cells.lookup x=some c->∀v,s.heap.IsCell c v->h'.IsCell c v:=fun x c e v ⟨o,ho,hd⟩=>by
  have nch:c∉ch:=fun z=>(hch c z).2.2.1 x c e rfl
  by_cases hc:c∈X.fs
  ·obtain⟨sl,q⟩:=slot c o (I.cne x c e) hc nch ho (I.freeC x c e)
   exact⟨_,q,hd⟩
  ·exact⟨o,keep c o (I.cne x c e) hc nch ho (I.freeC x c e),hd⟩
 refine⟨I.ok,I.os,hg,⟨fun b o e n hb hx=>?_,fun b o e n hb hx=>?_,fun b o e n hx=>?_,fun b o e hx=>?_,fun b xs e=>tups b xs (I.base.tups b xs e),fun b o xs e=>frzs b o xs (I.base.frzs b o xs e),fun b ps e=>?_⟩,?_,fun x c e=>?_,?_,fun x c e=>?_,fun p hp=>?_,hok,I.len⟩
 ·exact keep b o (neL b o e) hb (neC b o e hx) (I.base.keep b o e n hb hx) (I.base.free b o e n hx)
 ·obtain⟨sl,e1⟩:=I.base.slot b o e n hb hx
  obtain⟨sl',e2⟩:=slot b _ (neL b o e) hb (neC b o e hx) e1 (I.base.free b o e n hx)
  exact⟨sl',e2⟩
 ·obtain⟨o',e1⟩:=I.base.there b o e hx
  exact free b o' (neC b o e hx) e1 (I.base.free b o e n hx)
 ·obtain⟨o',e1⟩:=I.base.there b o e hx
  exact there b o' (neC b o e hx) e1
 ·obtain⟨m1,e1⟩:=I.base.tbls b ps e
  obtain⟨m2,e2⟩:=tbls b _ e1
  exact⟨m1++m2,by rw[e2,Array.append_assoc]⟩
 ·obtain⟨m,hn,hl⟩:=I.loc
  refine⟨m,ns m hn,fun i x v e1 e2 e3=>?_⟩
  obtain⟨u,r,l⟩:=hl i x v e1 e2 e3
  refine⟨u,r,?_⟩
  rcases l with l | ⟨k,c,e,z⟩
  ·exact .inl l
  ·exact .inr ⟨k,c,e,cellK x c e _ z⟩
 ·obtain⟨v,z⟩:=I.cell x c e
  exact⟨v,cellK x c e v z⟩
 ·obtain⟨m,⟨o,_,_,ho,_⟩,_⟩:=I.loc
  exact free _ o (fun z=>(hch _ z).2.1 rfl) ho I.free
 ·obtain⟨v,o,ho,hd⟩:=I.cell x c e
  exact free c o (fun z=>(hch c z).2.2.1 x c e rfl) ho (I.freeC x c e)
 ·obtain⟨e,n,ne,nf,d⟩:=I.pin p hp
  have nch:p.1∉ch:=fun z=>(hch p.1 z).2.2.2 p hp rfl
  exact⟨keep p.1 p.2 ne nf nch e n,free p.1 p.2 nch e n,ne,nf,d⟩
theorem Inv.un{t':Nat}(I:Inv X pins σ H s)(u:Un X.fs [] H H' s.heap h')(hok:HOk X.prog X.w H' h'):Inv X pins σ H' { s with heap:=h',toks:=t' }:=by
 obtain⟨m,⟨o,es,ep,ho,r⟩,_⟩:=id I.loc
 obtain⟨sl,hL⟩:=u.any ho I.free (by simp)
 exact I.step (g':=s.gens) (d':=s.drawn) (ch:=[]) (fun _ z=>nomatch z) (fun b o _ hb _ e n=>u.keep b o e n hb (by simp)) (fun b o _ hb _ e n=>u.slot b o e n hb (by simp)) (fun b o _ e n=>u.free b o e n (by simp)) (fun b o _ e=>u.there b o e (by simp)) u.tups u.frzs u.tbls (fun m' hm=>by
  obtain⟨o',es',ep',ho',r'⟩:=hm
  rw[ho]at ho';cases ho'
  exact⟨_,es',ep',hL,r'⟩) hok I.bare
theorem Inv.call{g':Array GenState}{t':Nat}{d':Drawn}{ch:List Addr}(I:Inv X pins σ H s)(u:Un (frs X.stack) ch H H' s.heap h')(hok:HOk X.prog X.w H' h')(hg:AllBare g')
  (hch:∀b∈ch,(b∈X.ex∨X.s₀.heap.objs.size≤b)∧b≠X.env.locals∧(∀x c,X.env.cells.lookup x=some c->c≠b)∧∀p∈X.pn++pins,p.1≠b):
  Inv X pins σ H' { s with heap:=h',gens:=g',drawn:=d',toks:=t' }:=by
 obtain⟨m,⟨o,es,ep,ho,r⟩,_⟩:=id I.loc
 obtain⟨sl,hL⟩:=u.any ho I.free fun z=>(hch _ z).2.1 rfl
 exact I.step (ch:=ch) hch (fun b o hL hb hc e n=>u.keep b o e n (fun z=>(ai.mp (I.stkSub b z)).elim hL hb) hc) (fun b o _ _ hc e n=>u.any e n hc) (fun b o hc e n=>u.free b o e n hc) (fun b o hc e=>u.there b o e hc) u.tups u.frzs u.tbls (fun m' hm=>by
  obtain⟨o',es',ep',ho',r'⟩:=hm
  rw[ho]at ho';cases ho'
  exact⟨_,es',ep',hL,r'⟩) hok hg
theorem Inv.turned{t':Nat}{it:Addr}(I:Inv X pins σ H s)(k:∀b o,b≠it->s.heap.get? b=some o->h'.get? b=some o)(hn:H it=none)(hL:it≠X.env.locals)
  (h1:it∈X.ex∨X.s₀.heap.objs.size≤it) (h2:∀x c,X.env.cells.lookup x=some c->c≠it) (h3:∀p∈X.pn++pins,p.1≠it):Inv X pins σ H { s with heap:=h',toks:=t' }:=by
 have nit:∀b u,H b=some u->b≠it:=fun b u e z=>by rw[z,hn]at e;cases e
 refine I.step (g':=s.gens) (d':=s.drawn) (ch:=[it]) (fun b hb=>?_) (fun b o _ _ hc e _=>k b o (fun z=>hc (by simp[z])) e) (fun b o _ _ hc e _=>⟨o.slots,k b o (fun z=>hc (by simp[z])) e⟩) (fun _ _ _ _ n=>n)
  (fun b o hc e=>⟨o,k b o (fun z=>hc (by simp[z])) e⟩) (fun _ _ e=>e) (fun _ _ _ e=>e) (fun b ps e=>⟨#[],by rw[e];simp⟩) (fun m hm=>?_) (fun b u e=>?_) I.bare
 ·have e:b=it:=by simpa using hb
  subst e
  exact⟨h1,hL,h2,h3⟩
 ·obtain⟨o,es,ep,ho,r⟩:=hm
  exact⟨o,es,ep,k _ o (Ne.symm hL) ho,r⟩
 ·refine(I.hok b u e).stay (fun c v hc q=>k c v ?_ q) (fun _ q=>q) fun _ _ q=>q
  rcases hc with z | z
  ·rw[z];exact nit b u e
  ·exact nit c _ z
theorem Inv.tok(I:Inv X pins σ H s)(t:Nat):Inv X pins σ H { s with toks:=t }:=I.un (h':=s.heap) (t':=t) Un.refl I.hok
theorem Inv.kept{t':Nat}(I:Inv X pins σ H s)(k:∀b u,s.heap.get? b=some u->h'.get? b=some u):Inv X pins σ H { s with heap:=h',toks:=t' }:=I.un (Un.kept k) (I.hok.kept k)
theorem Inv.laid{a:Addr}{o:HO}{t':Nat}(I:Inv X pins σ H s)(k:∀b u,s.heap.get? b=some u->h'.get? b=some u)(hp:s.heap.objs.size≤a)(new:ObjOk X.prog X.w (upd H a o) h' a o):
  Inv X pins σ (upd H a o) { s with heap:=h',toks:=t' }:=I.un (Un.laid k hp (I.hok.fresh hp)) (I.hok.laid k hp new)
theorem Inv.write{x e:Addr}{o:HO}{t':Nat}(I:Inv X pins σ H s)(mu:Mut (H x))(he:e=x∨H e=some (.own x))(k:∀b u,b≠e->s.heap.get? b=some u->h'.get? b=some u)(heo:∃u,h'.get? e=some u)
  (new:ObjOk X.prog X.w (upd H x o) h' x o):Inv X pins σ (upd H x o) { s with heap:=h',toks:=t' }:=I.un (Un.write mu he k heo) (I.hok.write mu he k heo new)
theorem Inv.pins_of{pins':AO}(I:Inv X pins σ H s)(h:∀p∈pins',s.heap.get? p.1=some p.2∧H p.1=none∧p.1≠X.env.locals∧p.1∉X.fs∧∀v,p.2.data≠.cell v):Inv X pins' σ H s:=
 ⟨I.ok,I.os,I.bare,I.base,I.loc,I.cell,I.free,I.freeC,fun p hp=>(au.mp hp).elim (fun z=>I.pin p (aQ _ z)) (h p),I.hok,I.len⟩
theorem z9C{N:List Str}(hN:N.Nodup){i j:Nat}{x:Str}(a:N[i]? = some x)(b:N[j]? = some x):i=j:=by
 obtain⟨h1,e1⟩:=aL.mp a
 obtain⟨h2,e2⟩:=aL.mp b
 exact(List.getElem_inj hN).mp (e1.trans e2.symm)
theorem z7g{M:Model}{A:Around}{E:Value->dw->Prop}{i:Nat}{x:Str}{v:V}{u:Value}{Q:Unit->dw->Prop}(I:Inv X pins σ H s)(hN:X.N.Nodup)(hi:X.N[i]? = some x)(hx:Loc X.env.scope x)(r:RelV v u)
  (h:∀s',Inv X pins (σ.set i (some v)) H s'->(∃a,Heap.SameBut a s.heap s'.heap∧(a=X.env.locals∨X.env.cells.lookup x=some a))->Q () s') (hf:X.fn x=true∨X.env.scope.names.lookup x=some .local:=by first | exact .inl rfl | exact .inr rfl | assumption):wpAny M A (storeName X.env x u) Q E s:=by
 obtain⟨m,hn,hl⟩:=id I.loc
 have hcls:(X.env.scope.kind == .class||(X.env.scope.kind == .module&&X.env.locals != X.env.globals))=false:=by rw[I.ok.kind];rfl
 have hiσ:i<σ.length:=by rw[I.len];exact(aL.mp hi).1
 have cne:=I.cne
 have tracked:∀{a:Addr} {h':Heap},(∃o,s.heap.get? a=some o∧H a=none)->Heap.SameBut a s.heap h'->HOk X.prog X.w H h':=fun {a h'} ha hs b ob e=>by
  obtain⟨_,_,hfree⟩:=ha
  refine(I.hok b ob e).stay (fun c w' hc q=>(hs.2 c ?_).trans q) (fun _ q=>q) fun _ _ q=>q
  rintro rfl
  rcases hc with rfl | hc
  ·rw[hfree]at e;cases e
  ·rw[hfree]at hc;cases hc
 rcases hx with hk | hk
 ·refine wpAny_storeName_local hk hn (fun h' hn' hs=>?_) hcls
  obtain⟨oL,_,_,hoL,_⟩:=id hn
  refine h _ ⟨I.ok,I.os,I.bare,⟨fun b o e n hb hx=>?_,fun b o e n hb hx=>?_,I.base.free,fun b o e hx=>?_,I.base.tups,I.base.frzs,I.base.tbls⟩,⟨_,hn',fun j y v' e1 e2 e3=>?_⟩,fun y c e=>?_,I.free,I.freeC,fun p hp=>?_,tracked ⟨oL,hoL,I.free⟩ hs,by simpa using I.len⟩ ⟨_,hs,.inl rfl⟩
  ·exact(hs.2 b (aE (aK (Heap.lt_size e) I.ok.above))).trans (I.base.keep b o e n hb hx)
  ·obtain⟨sl,e1⟩:=I.base.slot b o e n hb hx
   exact⟨sl,(hs.2 b (aE (aK (Heap.lt_size e) I.ok.above))).trans e1⟩
  ·obtain⟨o',e1⟩:=I.base.there b o e hx
   exact⟨o',(hs.2 b (aE (aK (Heap.lt_size e) I.ok.above))).trans e1⟩
  ·by_cases hj:j=i
   ·subst hj
    rw[hi]at e1;cases e1
    rw[cj hiσ]at e2
    cases e2
    exact⟨u,r,.inl ⟨hk,by simp⟩⟩
   ·rw[aW (Ne.symm hj)]at e2
    obtain⟨u',r',q⟩:=hl j y v' e1 e2 e3
    refine⟨u',r',?_⟩
    rcases q with⟨k,e⟩ | ⟨k,c,e,z⟩
    ·refine .inl ⟨k,?_⟩
     have:y≠x:=fun e=>hj (z9C hN e1 (e ▸ hi))
     simp[this,e]
    ·exact .inr ⟨k,c,e,z.sameBut hs (cne y c e)⟩
  ·obtain⟨w',z⟩:=I.cell y c e
   exact⟨w',z.sameBut hs (cne y c e)⟩
  ·obtain⟨e,n,ne,nf,d⟩:=I.pin p hp
   exact⟨(hs.2 p.1 ne).trans e,n,ne,nf,d⟩
 ·have hfn:X.fn x=true:=by
   rcases hf with z | z
   ·exact z
   ·rw[z]at hk;cases hk
  obtain⟨c,hc⟩:=I.ok.has x (.inl hk)
  obtain⟨w',z⟩:=I.cell x c hc
  refine wpAny_storeName_cell I.ok.kind hk hc z (fun h' hc' hs=>?_)
  obtain⟨oc,hoc,hocd⟩:=id z
  refine h { s with heap:=h' } ⟨I.ok,I.os,I.bare,⟨fun b o e n hb hx=>?_,fun b o e n hb hx=>?_,I.base.free,fun b o e hx=>?_,I.base.tups,I.base.frzs,I.base.tbls⟩,⟨m,hn.sameBut hs (Ne.symm (cne x c hc)),fun j y v' e1 e2 e3=>?_⟩,fun y c' e=>?_,I.free,I.freeC,fun p hp=>?_,tracked ⟨oc,hoc,I.freeC x c hc⟩ hs,by simpa using I.len⟩ ⟨c,hs,.inr hc⟩
  ·exact(hs.2 b (aE (aK (Heap.lt_size e) (I.ok.cab x c hfn hc)))).trans (I.base.keep b o e n hb hx)
  ·obtain⟨sl,e1⟩:=I.base.slot b o e n hb hx
   exact⟨sl,(hs.2 b (aE (aK (Heap.lt_size e) (I.ok.cab x c hfn hc)))).trans e1⟩
  ·obtain⟨o',e1⟩:=I.base.there b o e hx
   exact⟨o',(hs.2 b (aE (aK (Heap.lt_size e) (I.ok.cab x c hfn hc)))).trans e1⟩
  ·by_cases hj:j=i
   ·subst hj
    rw[hi]at e1;cases e1
    rw[cj hiσ]at e2
    cases e2
    exact⟨u,r,.inr ⟨.inl hk,c,hc,hc'⟩⟩
   ·rw[aW (Ne.symm hj)]at e2
    obtain⟨u',r',q⟩:=hl j y v' e1 e2 e3
    refine⟨u',r',?_⟩
    rcases q with q | ⟨k,c',e,z'⟩
    ·exact .inl q
    ·refine .inr ⟨k,c',e,z'.sameBut hs ?_⟩
     rintro rfl
     exact hj (z9C hN e1 (I.ok.inj _ _ _ e hc ▸ hi))
  ·by_cases hcc:c'=c
   ·subst hcc;exact⟨_,hc'⟩
   ·obtain⟨w2,z2⟩:=I.cell y c' e
    exact⟨w2,z2.sameBut hs hcc⟩
  ·obtain⟨e,n,ne,nf,d⟩:=I.pin p hp
   refine⟨(hs.2 p.1 ?_).trans e,n,ne,nf,d⟩
   intro q
   rw[q,hoc]at e
   have q':oc=p.2:=Option.some.inj e
   exact d w' (by rw[←q'];exact hocd)
theorem z9n{M:Model}{A:Around}{E:Value->dw->Prop}{i:Nat}{x:Str}{v:V}{u:Value}{Q:Unit->dw->Prop}(I:Inv X pins σ H s)(hN:X.N.Nodup)(hi:X.N[i]? = some x)(hx:Loc X.env.scope x)(r:RelV v u)
  (h:∀s',Inv X pins (σ.set i (some v)) H s'->Q () s') (hf:X.fn x=true∨X.env.scope.names.lookup x=some .local:=by first | exact .inl rfl | exact .inr rfl | assumption):wpAny M A (storeName X.env x u) Q E s:=
 z7g I hN hi hx r (fun s' I' _=>h s' I') hf
theorem Inv.call'{s':dw}{ch:List Addr}(I:Inv X pins σ H s)(ho:s'.os=s.os)(u:Un (frs X.stack) ch H H' s.heap s'.heap)(hok:HOk X.prog X.w H' s'.heap)(hg:AllBare s'.gens)
  (hch:∀b∈ch,(b∈X.ex∨X.s₀.heap.objs.size≤b)∧b≠X.env.locals∧(∀x c,X.env.cells.lookup x=some c->c≠b)∧∀p∈X.pn++pins,p.1≠b):Inv X pins σ H' s':=by
 obtain⟨h',g',d',t',o'⟩:=s'
 have e:o'=s.os:=ho
 subst e
 exact I.call (g':=g') (t':=t') (d':=d') u hok hg hch
end
abbrev XK:=Value->Option Addr->Hp->Prop
abbrev St:=List (Option V)
abbrev VK:=V->Hp->Prop
abbrev TE:=St->Hp->VK->Prop
abbrev TT:=St->Hp->(Bool->Hp->Prop)->Prop
abbrev TA:=St->Hp->(List V->Hp->Prop)->Prop
structure Ends where
 nx:St->Hp->Prop
 rt:VK
 bk:St->Hp->Prop:=fun _ _=>False
 ct:St->Hp->Prop:=fun _ _=>False
abbrev TS:=Ends->St->Hp->Prop
def EP(X:Cx)(pins:AO)(σ:St)(Q:VK)(u:Value)(s':dw):Prop:=∃v H',Inv X pins σ H' s'∧RelV v u∧Q v H'
def TP(X:Cx)(pins:AO)(σ:St)(Q:Bool->Hp->Prop)(b:Bool)(s':dw):Prop:=∃H',Inv X pins σ H' s'∧Q b H'
def AP(X:Cx)(pins:AO)(σ:St)(Q:List V->Hp->Prop)(us:List Value)(s':dw):Prop:=∃vs H',Inv X pins σ H' s'∧Vals vs us∧Q vs H'
def SP(X:Cx)(pins:AO)(D:Ends)(f:Flow)(s':dw):Prop:=
 match f with
 |.next=>∃σ' H',Inv X pins σ' H' s'∧D.nx σ' H'
 |.brk=>∃σ' H',Inv X pins σ' H' s'∧D.bk σ' H'
 |.cont=>∃σ' H',Inv X pins σ' H' s'∧D.ct σ' H'
 |.ret u=>∃v σ' H',Inv X pins σ' H' s'∧RelV v u∧D.rt v H'
def PE(X:Cx)(e:Expr)(t:TE):Prop:=
 ∀(pins:AO) (s:dw) (σ:St) (H:Hp) (Q:VK),Inv X pins σ H s->t σ H Q->wpAny (model X.prog X.w) X.A (eval e X.env) (EP X pins σ Q) X.xe s
def PT(X:Cx)(e:Expr)(t:TT):Prop:=
 ∀(pins:AO) (s:dw) (σ:St) (H:Hp) (Q:Bool->Hp->Prop),Inv X pins σ H s->t σ H Q->wpAny (model X.prog X.w) X.A (isTrue e X.env (eval e X.env)) (TP X pins σ Q) X.xe s
def PW(X:Cx)(e:Expr)(t:TT):Prop:=
 ∀(whole:Sem Value) (pins:AO) (s:dw) (σ:St) (H:Hp) (Q:Bool->Hp->Prop),Inv X pins σ H s->t σ H Q->wpAny (model X.prog X.w) X.A (isTrue e X.env whole) (TP X pins σ Q) X.xe s
theorem PW.pt{X:Cx}{e:Expr}{t:TT}(h:PW X e t):PT X e t:=h _
def PA(X:Cx)(es:List Expr)(t:TA):Prop:=
 ∀(pos:Pos) (pins:AO) (s:dw) (σ:St) (H:Hp) (Q:List V->Hp->Prop),Inv X pins σ H s->t σ H Q->wpAny (model X.prog X.w) X.A (spliced (fD pos (starEach es X.env))) (AP X pins σ Q) X.xe s
def PS(X:Cx)(st:Stmt)(t:TS):Prop:=
 ∀(pins:AO) (s:dw) (σ:St) (H:Hp) (D:Ends),Inv X pins σ H s->t D σ H->wpAny (model X.prog X.w) X.A (exec st X.env) (SP X pins D) X.xe s
def PSs(X:Cx)(st:List Stmt)(t:TS):Prop:=
 ∀(pins:AO) (s:dw) (σ:St) (H:Hp) (D:Ends),Inv X pins σ H s->t D σ H->wpAny (model X.prog X.w) X.A (execs st X.env) (SP X pins D) X.xe s
theorem thn{α:Type}{t:Sem α}{Q Q':α->dw->Prop}{M:Model}{A:Around}{E:Value->dw->Prop}{s:dw}(h:wpAny M A t Q E s)(hQ:∀a s,Q a s->Q' a s):wpAny M A t Q' E s:=wpAny_mono h hQ fun _ _ x=>x
section
variable{X:Cx}
def y1a(i:Nat):TE:=fun σ H Q=>∃v,σ[i]? = some (some v)∧Q v H
def tC(v:V):TE:=fun _ H Q=>Q v H
theorem pe_var{i:Nat}{x:Str}{pos:Pos}(hN:X.N[i]? = some x)(hv:Vis X.env.scope x)(hd:(x==("__debug__" : Str))=false:=by decide)(hcd:(x==("__classdict__" : Str))=false:=by decide):PE X (.Name x pos) (y1a i):=by
 intro pins s σ H Q I h
 obtain⟨v,e,h⟩:=h
 obtain⟨m,hn,hl⟩:=I.loc
 obtain⟨u,r,l⟩:=hl i x v hN e hv
 have fin:EP X pins σ Q u s:=⟨v,H,I,r,h⟩
 rcases l with⟨hk,hm⟩ | ⟨hk,c,hc,hcell⟩
 ·exact wpAny_Name (wpAny_loadName_local I.ok.kind hk hn hm fin) hd
 ·rcases hk with hk | hk
  ·exact wpAny_Name (wpAny_loadName_cell I.ok.kind hk hc hcell fin) hd
  ·exact wpAny_Name (wpAny_loadName_free I.ok.kind hk hc hcell fin hcd) hd
theorem pe_int{i j pos}:PE X (.Constant (.int i) j pos) (tC (.int i)):=fun _ _ _ H _ I h=>wpAny_Constant_int ⟨.int i,H,I.tok _,⟨_,rfl⟩,h⟩
theorem pe_bl{b j pos}:PE X (.Constant (.bool b) j pos) (tC (.bl b)):=fun _ _ _ H _ I h=>Constant_bool ⟨.bl b,H,I,rfl,h⟩
theorem pe_non{j pos}:PE X (.Constant .none j pos) (tC .non):=fun _ _ _ H _ I h=>Constant_none ⟨.non,H,I,rfl,h⟩
theorem pe_str{x j pos}:PE X (.Constant (.str x) j pos) (tC (.str x)):=fun _ _ _ H _ I h=>Calls.Constant_str ⟨.str x,H,I.tok _,⟨_,rfl⟩,h⟩
def Gl(X:Cx)(x:Str):Prop:=X.env.kindOf x=some .globalImplicit
theorem z7E{E:Value->dw->Prop}{pins:AO}{s:dw}{σ:St}{H:Hp}{x:Str}{u:Value}{pos:Pos}{Q:Value->dw->Prop}(I:Inv X pins σ H s)(hg:Gl X x)(hm:X.mg x=some u)(h:Q u s)
  (hd:(x==("__debug__" : Str))=false:=by decide):wpAny (model X.prog X.w) X.A (eval (.Name x pos) X.env) Q E s:=
 Calls.Name_function_global I.ok.kind hg (Calls.loadGlobal_global (by rw[I.ok.glob];exact I.mod.glob.keeps I.bk) hm h) hd
theorem z3Y{E:Value->dw->Prop}{pins:AO}{s:dw}{σ:St}{H:Hp}{x:Str}{u:Value}{pos:Pos}{Q:Value->dw->Prop}(I:Inv X pins σ H s)(hg:Gl X x)(hm:X.mg x=none)(hv:fE x=some u)(h:Q u s)
  (hn:x ≠ "__name__" := by decide) (hd:(x==("__debug__" : Str))=false:=by decide):wpAny (model X.prog X.w) X.A (eval (.Name x pos) X.env) Q E s:=by
 obtain⟨mb,h1,h2⟩:=I.mod.blt
 exact Calls.Name_function_global I.ok.kind hg (Calls.loadGlobal_builtin (by rw[I.ok.glob];exact I.mod.glob.keeps I.bk) hm (by rw[I.ok.blt];exact h1.keeps I.bk) ((h2 x hn).trans hv) h) hd
theorem y6o{x:Str}{v:V}{u:Value}{pos:Pos}(hg:Gl X x)(hm:X.mg x=none)(hv:fE x=some u)(r:RelV v u)(hn:x ≠ "__name__" := by decide)(hd:(x==("__debug__" : Str))=false:=by decide):PE X (.Name x pos) (tC v):=
 fun _ _ _ H _ I h=>z3Y I hg hm hv ⟨v,H,I,r,h⟩ hn hd
variable{a b:Expr}{ta tb:TE}{pos:Pos}
def PC(X:Cx)(op:CmpOp)(a b:Expr)(t:TE):Prop:=
 ∀(pins:AO) (s:dw) (σ:St) (H:Hp) (Q:VK),Inv X pins σ H s->t σ H Q →
  wpAny (model X.prog X.w) X.A (eval a X.env) (fun v s₁=>wpAny (model X.prog X.w) X.A (eval b X.env) (fun u s₂=>wpAny (model X.prog X.w) X.A (compareOp op v u) (EP X pins σ Q) X.xe s₂) X.xe s₁) X.xe s
theorem x1J(b:Expr){op:CmpOp}(h:op≠.In)(h2:op≠.NotIn):fB op b=false:=by
 have e1:(op==CmpOp.In)=false:=by cases op <;> first | rfl | exact absurd rfl h
 have e2:(op==CmpOp.NotIn)=false:=by cases op <;> first | rfl | exact absurd rfl h2
 cases b <;> simp[fB,e1,e2]
def tNotN(ta:TE):TE:=fun σ H Q=>ta σ H fun x H1=>Q (.bl (!decide (x = .non))) H1
theorem RelV.none_iff{x:V}{v:Value}(r:RelV x v):(v==Value.none)=decide (x = .non):=by
 cases x with
 |non=>cases r;rfl
 |bl _=>cases r;rfl
 |int _=>obtain⟨t,rfl⟩:=r;rfl
 |str _=>obtain⟨t,rfl⟩:=r;rfl
 |byt _=>obtain⟨t,rfl⟩:=r;rfl
 |flt _=>obtain⟨t,rfl⟩:=r;rfl
 |ref _=>cases r;rfl
 |ty _=>cases r;rfl
theorem pc_notN{j pos'}(ha:PE X a ta):PC X .IsNot a (.Constant .none j pos') (tNotN ta):=by
 intro pins s σ H Q I h
 refine thn (ha pins s σ H _ I h) fun v s1 ⟨x,H1,I1,r1,q1⟩=>?_
 exact Constant_none (isnot_none_gen ⟨.bl _,H1,I1,by rw[r1.none_iff];rfl,q1⟩)
def tB(t:TE):TT:=fun σ H Q=>t σ H fun x H1=>∃c,x = .bl c∧Q c H1
theorem y7U{op:CmpOp}{t:TE}(h:PC X op a b t)(h1:fB op b=false:=by first | exact x1J _ nofun nofun | rfl):PT X (.Compare a [op] [b] pos) (tB t):=by
 intro pins s σ H Q I hw
 refine wpAny_isTrue_Compare1 (thn (h pins s σ H _ I hw) fun v s1 h1=>thn h1 fun u s2 h2=>thn h2 fun c s3 ⟨x,H1,I1,r1,q1⟩=>?_) h1
 obtain⟨d,rfl,q⟩:=q1
 cases r1
 exact wpAny_truthy_bool ⟨H1,I1,q⟩
variable{tA tB':TT}{rest:List Expr}
def tAnd(t u:TT):TT:=fun σ H Q=>t σ H fun c H1=>if c=true then u σ H1 Q else Q false H1
def tOr(t u:TT):TT:=fun σ H Q=>t σ H fun c H1=>if c=true then Q true H1 else u σ H1 Q
def tNot(t:TT):TT:=fun σ H Q=>t σ H fun c H1=>Q (!c) H1
theorem pw_and1(ha:PT X a tA):PW X (.BoolOp .And [a] pos) tA:=by
 intro wh pins s σ H Q I h
 refine isTrue_and (thn (ha pins s σ H Q I h) fun c s1 e=>?_)
 cases c with
 |true=>exact isTrue_and_nil e
 |false=>exact e
theorem pw_or1(ha:PT X a tA):PW X (.BoolOp .Or [a] pos) tA:=by
 intro wh pins s σ H Q I h
 refine isTrue_or (thn (ha pins s σ H Q I h) fun c s1 e=>?_)
 cases c with
 |false=>exact isTrue_or_nil e
 |true=>exact e
theorem pw_and(ha:PT X a tA)(hb:PW X (.BoolOp .And (b::rest) pos) tB'):PW X (.BoolOp .And (a::b::rest) pos) (tAnd tA tB'):=by
 intro wh pins s σ H Q I h
 refine isTrue_and (thn (ha pins s σ H _ I h) fun c s1 ⟨H1,I1,q1⟩=>?_)
 cases c with
 |true=>exact hb wh pins s1 σ H1 Q I1 q1
 |false=>exact⟨H1,I1,q1⟩
theorem pw_or(ha:PT X a tA)(hb:PW X (.BoolOp .Or (b::rest) pos) tB'):PW X (.BoolOp .Or (a::b::rest) pos) (tOr tA tB'):=by
 intro wh pins s σ H Q I h
 refine isTrue_or (thn (ha pins s σ H _ I h) fun c s1 ⟨H1,I1,q1⟩=>?_)
 cases c with
 |true=>exact⟨H1,I1,q1⟩
 |false=>exact hb wh pins s1 σ H1 Q I1 q1
theorem pt_not(ha:PT X a tA):PT X (.UnaryOp .Not a pos) (tNot tA):=by
 intro pins s σ H Q I h
 exact isTrue_not (ha pins s σ H (fun c H1=>Q (!c) H1) I h)
def tAndV(ta tb:TE):TE:=fun σ H Q=>ta σ H fun x H1=>∃c,x = .bl c∧if c=true then tb σ H1 Q else Q (.bl false) H1
def tNotV(ta:TE):TE:=fun σ H Q=>ta σ H fun x H1=>∃c,x = .bl c∧Q (.bl (!c)) H1
theorem pe_one{op}{t:TE}(h:PE X a t):PE X (.BoolOp op [a] pos) t:=fun pins s σ H Q I hw=>BoolOp_one (h pins s σ H Q I hw)
theorem pe_and(ha:PE X a ta)(hb:PE X (.BoolOp .And (b::rest) pos) tb):PE X (.BoolOp .And (a::b::rest) pos) (tAndV ta tb):=by
 intro pins s σ H Q I h
 refine BoolOp_and (thn (ha pins s σ H _ I h) fun v s1 ⟨x,H1,I1,r1,q1⟩=>?_)
 obtain⟨c,rfl,q1⟩:=q1
 cases r1
 refine wpAny_truthy_bool ?_
 cases c with
 |true=>exact hb pins s1 σ H1 Q I1 q1
 |false=>exact⟨.bl false,H1,I1,rfl,q1⟩
theorem pe_not(ha:PE X a ta):PE X (.UnaryOp .Not a pos) (tNotV ta):=by
 intro pins s σ H Q I h
 refine UnaryOp_ (thn (ha pins s σ H _ I h) fun v s1 ⟨x,H1,I1,r1,q1⟩=>?_)
 obtain⟨c,rfl,q1⟩:=q1
 cases r1
 exact not_of (wpAny_truthy_bool ⟨.bl (!c),H1,I1,rfl,q1⟩)
def tIf(t:TT)(ta tb:TE):TE:=fun σ H Q=>t σ H fun c H1=>if c=true then ta σ H1 Q else tb σ H1 Q
theorem x2a{c:Expr}(hc:PT X c tA)(ha:PE X a ta)(hb:PE X b tb):PE X (.IfExp c a b pos) (tIf tA ta tb):=by
 intro pins s σ H Q I h
 refine wpAny_IfExp (thn (hc pins s σ H _ I h) fun d s1 ⟨H1,I1,q1⟩=>?_)
 cases d with
 |true=>exact ha pins s1 σ H1 Q I1 q1
 |false=>exact hb pins s1 σ H1 Q I1 q1
end
def SqL(K:aa)(H:Hp)(a:Addr)(xs:List V):Prop:=
 Rd H a (.lst xs) ∨
  ∃(o:Obj) (its:Array Value) (n:Nat),K.lookup a=some o∧o.cls = .type "list" ∧ o.dict=none∧o.data = .seq its n∧its.size≤sizeLine∧Vals xs its.toList
def SqT(K:aa)(H:Hp)(a:Addr)(xs:List V):Prop:=
 Rd H a (.tup xs) ∨
  ∃(o:Obj) (its:Array Value) (n:Nat),K.lookup a=some o∧(o.cls = .type "tuple" ∧ o.dict=none)∧o.data = .seq its n∧its.size≤sizeLine∧Vals xs its.toList
def absV:Value->Option V
 |.none=>some .non
 |.bool b=>some (.bl b)
 |.int i _=>some (.int i)
 |.str x _=>some (.str x)
 |.bytes b _=>some (.byt b)
 |.float b _=>some (.flt b)
 |.ref a=>some (.ref a)
 |.type n=>some (.ty n)
 |_=>none
theorem RelV.abs{x:V}{u:Value}(r:RelV x u):absV u=some x:=by
 cases x with
 |non=>cases r;rfl
 |bl _=>cases r;rfl
 |int _=>obtain⟨t,rfl⟩:=r;rfl
 |str _=>obtain⟨t,rfl⟩:=r;rfl
 |byt _=>obtain⟨t,rfl⟩:=r;rfl
 |flt _=>obtain⟨t,rfl⟩:=r;rfl
 |ref _=>cases r;rfl
 |ty _=>cases r;rfl
theorem RelV.inj{x y:V}{u:Value}(r:RelV x u)(q:RelV y u):x=y:=Option.some.inj (r.abs.symm.trans q.abs)
theorem Vals.inj:∀{xs ys:List V} {us:List Value},Vals xs us->Vals ys us->xs=ys
 |_,_,_,.nil,.nil=>rfl
 |_,_,_,.cons r t,.cons r' t'=>by rw[r.inj r',Vals.inj t t']
section
variable{X:Cx}{pins:AO}{σ:St}{H:Hp}{s:dw}{a:Addr}{xs ys:List V}
theorem SqL.of{K:aa}(h:H a=some (.lst xs)):SqL K H a xs:=.inl (.inl h)
theorem SqT.of{K:aa}(h:H a=some (.tup xs)):SqT K H a xs:=.inl (.inl h)
theorem Inv.list(I:Inv X pins σ H s)(h:SqL X.K H a xs):∃its:List Value,Vals xs its∧PlainL s.heap a its.toArray∧xs.length≤sizeLine:=by
 rcases h with h | ⟨o,its,n,hk,hc,hd,hs,hz,r⟩
 ·obtain⟨z,its,n,r,e⟩:=h.ok I.hok
  exact⟨its,r,⟨_,n,e,rfl,rfl,rfl⟩,z⟩
 ·refine⟨its.toList,r,⟨o,n,I.kIn a o hk,hc,hd,by simpa using hs⟩,?_⟩
  have e:=r.length
  simp only[bL]at e
  omega
theorem Inv.tuple(I:Inv X pins σ H s)(h:SqT X.K H a xs):∃its:List Value,Vals xs its∧IsTup s.heap a its.toArray∧xs.length≤sizeLine:=by
 rcases h with h | ⟨o,its,n,hk,hc,hs,hz,r⟩
 ·obtain⟨z,its,r,p⟩:=h.ok I.hok
  exact⟨its,r,p.is,z⟩
 ·refine⟨its.toList,r,⟨o,I.kIn a o hk,hc.1,n,by simpa using hs⟩,?_⟩
  have e:=r.length
  simp only[bL]at e
  omega
theorem Inv.list_inj(I:Inv X pins σ H s)(h:SqL X.K H a xs)(h':SqL X.K H a ys):xs=ys:=by
 obtain⟨its,r,⟨o,n,e,_,_,d⟩,_⟩:=I.list h
 obtain⟨its',r',⟨o',n',e',_,_,d'⟩,_⟩:=I.list h'
 rw[e]at e';cases e'
 rw[d]at d'
 injection d' with d1 _
 have:its=its':=by simpa using congrArg Array.toList d1
 subst this
 exact r.inj r'
theorem Inv.tuple_inj(I:Inv X pins σ H s)(h:SqT X.K H a xs)(h':SqT X.K H a ys):xs=ys:=by
 obtain⟨its,r,⟨o,e,_,n,d⟩,_⟩:=I.tuple h
 obtain⟨its',r',⟨o',e',_,n',d'⟩,_⟩:=I.tuple h'
 rw[e]at e';cases e'
 rw[d]at d'
 injection d' with d1 _
 have:its=its':=by simpa using congrArg Array.toList d1
 subst this
 exact r.inj r'
end
abbrev Cx.wish(X:Cx)(E:Value->dw->Prop):Cx:={ X with xe:=E }
abbrev Cx.nox(X:Cx):Cx:=X.wish fun _ _=>False
theorem Cx.Ok.wish{X:Cx}(ok:X.Ok)(E:Value->dw->Prop):(X.wish E).Ok:=
 ⟨ok.mod,ok.kind,ok.glob,ok.blt,ok.above,ok.inj,ok.has,ok.cab,ok.hd,ok.frames,ok.stk,ok.exf,ok.bs,ok.bsz,ok.noex,ok.exfs,ok.funs,ok.frf⟩
theorem Cx.Ok.unwish{X:Cx}{E:Value->dw->Prop}(ok:(X.wish E).Ok):X.Ok:=
 ⟨ok.mod,ok.kind,ok.glob,ok.blt,ok.above,ok.inj,ok.has,ok.cab,ok.hd,ok.frames,ok.stk,ok.exf,ok.bs,ok.bsz,ok.noex,ok.exfs,ok.funs,ok.frf⟩
section
variable{X:Cx}{pins:AO}{σ:St}{H:Hp}{s:dw}{E:Value->dw->Prop}
theorem Inv.wish(I:Inv X pins σ H s)(E:Value->dw->Prop):Inv (X.wish E) pins σ H s:=⟨I.ok.wish E,I.os,I.bare,I.base,I.loc,I.cell,I.free,I.freeC,I.pin,I.hok,I.len⟩
theorem Inv.unwish(I:Inv (X.wish E) pins σ H s):Inv X pins σ H s:=⟨I.ok.unwish,I.os,I.bare,I.base,I.loc,I.cell,I.free,I.freeC,I.pin,I.hok,I.len⟩
theorem SP.unwish{D:Ends}{f:Flow}{s':dw}(h:SP (X.wish E) pins D f s'):SP X pins D f s':=by
 cases f with
 |next=>obtain⟨σ',H',I,q⟩:=h;exact⟨σ',H',I.unwish,q⟩
 |brk=>obtain⟨σ',H',I,q⟩:=h;exact⟨σ',H',I.unwish,q⟩
 |cont=>obtain⟨σ',H',I,q⟩:=h;exact⟨σ',H',I.unwish,q⟩
 |ret u=>obtain⟨v,σ',H',I,r,q⟩:=h;exact⟨v,σ',H',I.unwish,r,q⟩
theorem PSs.nox{st:List Stmt}{t:TS}(h:PSs X.nox st t):PSs X st t:=fun pins s σ H D I hw=>
 wpAny_mono (h pins s σ H D (I.wish _) hw) (fun _ _ q=>q.unwish) fun _ _ z=>False.elim z
end
section
variable{X:Cx}{st:Stmt}{rest:List Stmt}{t u:TS}{e:Expr}{te:TE}{pos:Pos}
def tNext:TS:=fun D σ H=>D.nx σ H
def tSeq(t u:TS):TS:=fun D σ H=>t { D with nx:=u D } σ H
theorem pss_nil:PSs X [] tNext:=fun _ _ σ H _ I h=>wpAny_execs_nil ⟨σ,H,I,h⟩
theorem z9G(h1:PS X st t)(h2:PSs X rest u):PSs X (st::rest) (tSeq t u):=by
 intro pins s σ H D I h
 refine wpAny_execs_cons (thn (h1 pins s σ H { D with nx:=u D } I h) fun f s1 q=>?_)
 cases f with
 |next=>
  obtain⟨σ',H',I',q⟩:=q
  exact h2 pins s1 σ' H' D I' q
 |ret v=>exact q
 |brk=>exact q
 |cont=>exact q
theorem x0a(h1:PS X st t):PSs X [st] t:=by
 intro pins s σ H D I h
 refine wpAny_execs_cons (thn (h1 pins s σ H D I h) fun f s1 q=>?_)
 cases f with
 |next=>exact wpAny_execs_nil q
 |ret v=>exact q
 |brk=>exact q
 |cont=>exact q
theorem Inv.quiet{pins:AO}{σ:St}{H:Hp}{s:dw}(I:Inv X pins σ H s):interactive X.env=false:=by simp[interactive,I.ok.kind]
def x1V(te:TE):TS:=fun D σ H=>te σ H fun _ H1=>D.nx σ H1
theorem z6w(he:PE X e te)(hs:swapsWith e none pos.line X.env=pure false:=by rfl):PS X (.Expr e pos) (x1V te):=by
 intro pins s σ H D I h
 exact wpAny_Expr_any (thn (he pins s σ H _ I h) fun v s1 ⟨x,H1,I1,r1,q1⟩=>⟨σ,H1,I1,q1⟩) I.quiet hs
def tRet(te:TE):TS:=fun D σ H=>te σ H D.rt
theorem y0M(he:PE X e te):PS X (.Return (some e) pos) (tRet te):=by
 intro pins s σ H D I h
 exact wpAny_Return_some (thn (he pins s σ H _ I h) fun v s1 ⟨x,H1,I1,r1,q1⟩=>⟨x,σ,H1,I1,r1,q1⟩)
def tIfS(c:TT)(t u:TS):TS:=fun D σ H=>c σ H fun b H1=>if b=true then t D σ H1 else u D σ H1
theorem ps_if{c:Expr}{a b:List Stmt}{tc:TT}(hc:PT X c tc)(ha:PSs X a t)(hb:PSs X b u):PS X (.If c a b pos) (tIfS tc t u):=by
 intro pins s σ H D I h
 refine wpAny_If (thn (hc pins s σ H _ I h) fun d s1 ⟨H1,I1,q1⟩=>?_)
 cases d with
 |true=>exact ha pins s1 σ H1 D I1 q1
 |false=>exact hb pins s1 σ H1 D I1 q1
end
abbrev TG:=V->St->Hp->(St->Hp->Prop)->Prop
abbrev TGs:=List V->St->Hp->(St->Hp->Prop)->Prop
def PG(X:Cx)(target:Expr)(t:TG):Prop:=
 ∀(pins:AO) (s:dw) (σ:St) (H:Hp) (v:V) (u:Value) (Q:St->Hp->Prop),Inv X pins σ H s->RelV v u->t v σ H Q →
  wpAny (model X.prog X.w) X.A (fF target X.env u) (fun _ s'=>∃σ' H',Inv X pins σ' H' s'∧Q σ' H') X.xe s
def PGs(X:Cx)(ts:List Expr)(t:TGs):Prop:=
 ∀(pins:AO) (s:dw) (σ:St) (H:Hp) (vs:List V) (us:List Value) (Q:St->Hp->Prop),Inv X pins σ H s->Vals vs us->t vs σ H Q →
  wpAny (model X.prog X.w) X.A (assignInOrder ((fA ts X.env).map (·.2)) us) (fun _ s'=>∃σ' H',Inv X pins σ' H' s'∧Q σ' H') X.xe s
abbrev TSet:=V->V->V->Hp->(Hp->Prop)->Prop
def PSet(X:Cx)(t:TSet):Prop:=
 ∀(pins:AO) (s:dw) (σ:St) (H:Hp) (o i v:V) (ov iv u:Value) (Q:Hp->Prop),Inv X pins σ H s->RelV o ov->RelV i iv->RelV v u->t o i v H Q →
  wpAny (model X.prog X.w) X.A (setItem ov iv u) (fun _ s'=>∃H',Inv X pins σ H' s'∧Q H') X.xe s
section
variable{X:Cx}{pos:Pos}
def z2w(i:Nat):TG:=fun v σ H Q=>Q (σ.set i (some v)) H
theorem z0l{i:Nat}{x:Str}(hN:X.N.Nodup)(hi:X.N[i]? = some x)(hx:Loc X.env.scope x)(hf:X.fn x=true∨X.env.scope.names.lookup x=some .local:=by first | exact .inl rfl | exact .inr rfl | assumption):PG X (.Name x pos) (z2w i):=by
 intro pins s σ H v u Q I r h
 exact wpAny_assign_Name (z9n I hN hi hx r (fun s' I'=>⟨_,H,I',h⟩) hf)
def gNil:TGs:=fun vs σ H Q=>vs=[]∧Q σ H
def y6y(t:TG)(u:TGs):TGs:=fun vs σ H Q=>∃v r,vs=v::r∧t v σ H fun σ' H'=>u r σ' H' Q
theorem y6Z:PGs X [] gNil:=by
 intro pins s σ H vs us Q I r h
 obtain⟨e,h⟩:=h
 subst e
 cases r
 exact assignInOrder_nil ⟨σ,H,I,h⟩
theorem z6Y{e:Expr}{es:List Expr}{t:TG}{u:TGs}(h1:PG X e t)(h2:PGs X es u)
  (hs:(fA (e::es) X.env).map (·.2)=fF e X.env::(fA es X.env).map (·.2):=by rfl):PGs X (e::es) (y6y t u):=by
 intro pins s σ H vs us Q I r h
 obtain⟨v,vr,e1,h⟩:=h
 subst e1
 cases r with
 |cons r rr=>
  rw[hs]
  refine assignInOrder_cons (thn (h1 pins s σ H _ _ _ I r h) fun _ s1 ⟨σ1,H1,I1,q1⟩=>?_)
  exact h2 pins s1 σ1 H1 _ _ Q I1 rr q1
def gTup(K:aa)(n:Nat)(t:TGs):TG:=fun v σ H Q=>∃a xs,v = .ref a∧SqT K H a xs∧xs.length=n∧t xs σ H Q
theorem x2L{es:List Expr}{k:Nat}{t:TGs}{n:Nat}(hc:X.calm=true)(h:PGs X es t)
  (hn:(fA es X.env).length=n:=by rfl) (hst:(fA es X.env).findIdx? (·.1)=none:=by rfl):PG X (.Tuple es k pos) (gTup X.K n t):=by
 intro pins s σ H v u Q I r hw
 obtain⟨a,xs,e1,hq,hl,hw⟩:=hw
 subst e1
 cases r
 obtain⟨its,rv,ht,hz⟩:=I.tuple hq
 refine assign_Tuple_tuple (I.ok.hd hc) ht (by simp[hn,←hl,rv.length]) hst fun h' hx=>?_
 have I1:Inv X pins σ H { s with heap:=h' }:=I.kept (t':=s.toks) fun b o e=>hx b o (aE (Heap.lt_size e)) e
 exact h pins _ σ H xs _ Q I1 (by simpa using rv) hw
def gSub(to ti:TE)(t:TSet):TG:=fun v σ H Q=>to σ H fun o H1=>ti σ H1 fun i H2=>t o i v H2 fun H3=>Q σ H3
theorem y6x{o i:Expr}{to ti:TE}{t:TSet}(ho:PE X o to)(hi:PE X i ti)(hs:PSet X t)
  (ha:∀v,fF (.Subscript o i pos) X.env v=(do
   let ov ←holding [v] (eval o X.env)
   let iv ←holding [v,ov] (eval i X.env)
   standAt pos
   holding [v,ov,iv] (setItem ov iv v)
   release [v,ov,iv] []):=by intro _;rfl):PG X (.Subscript o i pos) (gSub to ti t):=by
 intro pins s σ H v u Q I r h
 rw[ha]
 refine wpAny_bind (wpAny_holding (thn (ho pins s σ H _ I h) fun ov s1 ⟨x,H1,I1,r1,q1⟩=>?_))
 refine wpAny_bind (wpAny_holding (thn (hi pins s1 σ H1 _ I1 q1) fun iv s2 ⟨y,H2,I2,r2,q2⟩=>?_))
 refine wpAny_bind (wpAny_standAt (wpAny_bind (wpAny_holding (thn (hs pins s2 σ H2 x y v ov iv u _ I2 r1 r2 r q2) fun _ s3 ⟨H3,I3,q3⟩=>?_))))
 exact wpAny_release ⟨σ,H3,I3,q3⟩
def tAsg(te:TE)(g:TG):TS:=fun D σ H=>te σ H fun x H1=>g x σ H1 D.nx
theorem y9t{tg e:Expr}{te:TE}{g:TG}(he:PE X e te)(hg:PG X tg g)(hs:swapsWithSole [tg] e pos.line X.env=pure false:=by rfl)(hw:swappedStores [tg] e X.env=pure none:=by rfl)
  (h1:(fA [tg] X.env).map (·.2)=[fF tg X.env]:=by rfl):PS X (.Assign [tg] e pos) (tAsg te g):=by
 intro pins s σ H D I h
 refine wpAny_Assign_stores (thn (he pins s σ H _ I h) fun v s1 ⟨x,H1,I1,r1,q1⟩=>?_) hs hw
 rw[h1]
 exact thn (hg pins s1 σ H1 x v _ I1 r1 q1) fun _ s2 q=>q
theorem ps_set{i:Nat}{x:Str}{e:Expr}{te:TE}{pos':Pos}(hN:X.N.Nodup)(hi:X.N[i]? = some x)(hx:Loc X.env.scope x)(he:PE X e te)(hs:swapsWith e (some (.Name x pos')) pos.line X.env=pure false:=by rfl)(hf:X.fn x=true∨X.env.scope.names.lookup x=some .local:=by first | exact .inl rfl | exact .inr rfl | assumption):
  PS X (.Assign [.Name x pos'] e pos) (tAsg te (z2w i)):=by
 intro pins s σ H D I h
 refine wpAny_Assign_Name (thn (he pins s σ H _ I h) fun v s1 ⟨y,H1,I1,r1,q1⟩=>?_) hs
 exact z9n I1 hN hi hx r1 (fun s2 I2=>⟨_,H1,I2,q1⟩) hf
end
section
variable{X:Cx}{pos:Pos}
def tWhile(c:TT)(tb:TS):TS:=fun D σ H=>∃W:Nat->St->Hp->Prop,(∃m,W m σ H)∧∀m σ H,W m σ H →
 c σ H fun b H1=>if b=true then ∃N:St->Hp->Prop,(∀σ' H',N σ' H'->∃m',m'<m∧W m' σ' H')∧tb { D with nx:=N,ct:=N,bk:=D.nx } σ H1 else D.nx σ H1
theorem x0M{c:Expr}{body:List Stmt}{tc:TT}{tb:TS}(hp:PassesOwn (model X.prog X.w) X.A X.env X.xe)(hc:PT X c tc)(hb:PSs X body tb):PS X (.While c body [] pos) (tWhile tc tb):=by
 intro pins s σ H D I h
 obtain⟨W,⟨m0,w0⟩,turn⟩:=h
 refine wpAny_While (codeAny_whileLoop (fun n s'=>∃σ' H',Inv X pins σ' H' s'∧W n σ' H') ?_ m0 ⟨σ,H,I,w0⟩)
 rintro n s1 ⟨σ1,H1,I1,w1⟩
 refine wpAny_passesOwn hp (thn (hc pins s1 σ1 H1 _ I1 (turn n σ1 H1 w1)) fun b s2 ⟨H2,I2,q2⟩=>?_)
 cases b with
 |true=>
  obtain⟨N,hN,q2⟩:=q2
  rw[if_pos rfl]
  refine wpAny_passesOwn hp (thn (hb pins s2 σ1 H2 _ I2 q2) fun f s3 q3=>?_)
  cases f with
  |next=>
   obtain⟨σ3,H3,I3,n3⟩:=q3
   obtain⟨m',hm,w3⟩:=hN σ3 H3 n3
   exact⟨m',hm,σ3,H3,I3,w3⟩
  |cont=>
   obtain⟨σ3,H3,I3,n3⟩:=q3
   obtain⟨m',hm,w3⟩:=hN σ3 H3 n3
   exact⟨m',hm,σ3,H3,I3,w3⟩
  |brk=>exact q3
  |ret v=>exact q3
 |false=>
  rw[if_neg av]
  exact wpAny_execs_nil ⟨σ1,H2,I2,q2⟩
end
structure It where
 go:Nat->Hp->Prop
 yld:Nat->Hp->V->Hp->Prop
 stop:Nat->Hp->Prop
def y0B(X:Cx)(pins:AO)(H:Hp)(b:Addr):Prop:=
 H b=none∧b≠X.env.locals∧b∉X.fs∧(b∈X.ex∨X.s₀.heap.objs.size≤b)∧(∀x c,X.env.cells.lookup x=some c->c≠b)∧∀p∈X.pn++pins,p.1≠b
theorem Inv.fpOk{X:Cx}{pins:AO}{σ:St}{H H':Hp}{s:dw}{b:Addr}(I:Inv X pins σ H s)(hb:s.heap.objs.size≤b)(hn:H' b=none):y0B X pins H' b:=by
 refine⟨hn,b7 (aK I.lt hb),I.nofs hb,.inr (aI I.sz hb),fun x c e z=>?_,fun p hp z=>?_⟩
 ·obtain⟨v,q⟩:=I.cell x c e
  exact absurd (aK q.lt (by rw[z];exact hb)) (bw _)
 ·exact absurd (aK (Heap.lt_size (I.pin p hp).1) (by rw[z];exact hb)) (bw _)
structure Turn(P:fw)(w:fx)(K:aa)(tg:Expr)(J:It)(fp:List Addr)(it:Addr)(tn:Nat->Heap->Prop):Prop where
 mem:it∈fp
 obj:∀i h,tn i h->∀b∈fp,∃o,h.get? b=some o∧∀v,o.data≠.cell v
 keep:∀i h h',tn i h->(∀b∈fp,∀o,h.get? b=some o->h'.get? b=some o)->tn i h'
 item:∀(X:Cx),X.prog=P->X.w=w->X.K=K->X.calm=true->∀(i:Nat) (pins:AO) (s:dw) (σ:St) (H:Hp) (E:Value->dw->Prop),Inv X pins σ H s->(∀b∈fp,y0B X pins H b)->tn i s.heap->J.go i H →
  wpAny (model P w) X.A (pyNext (.ref it)) (fun r s1=>∃u,r=some u ∧
   wpAny (model P w) X.A (letOwnedTupleGo tg (.ref it) u) (fun _ s2=>∃x H',Inv X pins σ H' s2∧RelV x u∧J.yld i H x H'∧tn (i+1) s2.heap∧∀b∈fp,H' b=none) E s1) E s
 done:∀(X:Cx),X.prog=P->X.w=w->X.K=K->X.calm=true->∀(i:Nat) (pins:AO) (s:dw) (σ:St) (H:Hp) (E:Value->dw->Prop),Inv X pins σ H s->(∀b∈fp,y0B X pins H b)->tn i s.heap->J.stop i H →
  wpAny (model P w) X.A (pyNext (.ref it)) (fun r s1=>r=none∧Inv X pins σ H s1) E s
 self:∀(A:Around) (i:Nat) (s:dw) (Q:Value->dw->Prop) (E:Value->dw->Prop),tn i s.heap->Q (.ref it) s->wpAny (model P w) A (pyIter (.ref it)) Q E s
abbrev TI:=St->Hp->(It->Hp->Prop)->Prop
def PIE(X:Cx)(pins:AO)(σ:St)(tg:Expr)(R:It->Hp->Prop)(itv:Value)(s2:dw):Prop:=
 ∃(it:Addr) (fp:List Addr) (tn:Nat->Heap->Prop) (J:It) (H':Hp),itv = .ref it∧Inv X pins σ H' s2∧Turn X.prog X.w X.K tg J fp it tn∧tn 0 s2.heap∧(∀b∈fp,y0B X pins H' b)∧R J H'
def PI(X:Cx)(tg iter:Expr)(wi:TI):Prop:=
 ∀(pins:AO) (s:dw) (σ:St) (H:Hp) (R:It->Hp->Prop),Inv X pins σ H s->wi σ H R →
  wpAny (model X.prog X.w) X.A (eval iter X.env) (fun v s1=>wpAny (model X.prog X.w) X.A (pyIter v) (PIE X pins σ tg R) X.xe s1) X.xe s
theorem y8s{M:Model}{A:Around}{E:Value->dw->Prop}{s:dw}{tg:Expr}{it:Addr}{u:Value}{o:Obj}{n:String}{vs:Array Value}{Q:Unit->dw->Prop}(ho:s.heap.get? it=some o)(hc:o.cls = .type n)(hd:o.data = .fields vs)
  (hn:["enumerate", "zip", "dict_itemiterator", "dict_reverseitemiterator", "odict_iterator", "itertools.zip_longest", "itertools.pairwise"].contains n=false) (hQ:Q () s):wpAny M A (letOwnedTupleGo tg (.ref it) u) Q E s:=by
 unfold letOwnedTupleGo
 cases tg <;> first
  |exact wpAny_pure hQ
  | (cases u <;> first
    |exact wpAny_pure hQ
    | (refine wpAny_bind (wpAny_load ho ?_)
       rw[hc,hd]
       show wpAny M A (if(["enumerate", "zip", "dict_itemiterator", "dict_reverseitemiterator", "odict_iterator", "itertools.zip_longest", "itertools.pairwise"].contains n&&vs[0]? == some (rawInt _))=true then _ else _) Q E s
       rw[if_neg (by intro h;rw[hn,cJ]at h;cases h)]
       exact wpAny_pure hQ))
def Itl(K:aa)(a:Addr):It:=
 ⟨fun i H=>∃xs x,SqL K H a xs∧xs[i]? = some x,fun i H x H'=>H'=H∧∀xs,SqL K H a xs->xs[i]? = some x,fun i H=>∃xs,SqL K H a xs∧xs.length≤i⟩
def Itt(K:aa)(a:Addr):It:=
 ⟨fun i H=>∃xs x,SqT K H a xs∧xs[i]? = some x,fun i H x H'=>H'=H∧∀xs,SqT K H a xs->xs[i]? = some x,fun i H=>∃xs,SqT K H a xs∧xs.length≤i⟩
def Itr(lo:Int)(n:Nat):It:=⟨fun i _=>i<n,fun i H x H'=>H'=H∧x = .int (lo+i),fun i _=>n≤i⟩
theorem y7f{P:fw}{w:fx}{K:aa}{tg:Expr}(a it:Addr):Turn P w K tg (Itl K a) [it] it (fun i h=>h.IsListIter it a i) where
 mem:=by simp
 obj:=fun i h st b hb=>by
  have e:b=it:=by simpa using hb
  subst e
  obtain⟨o,e,c,d⟩:=st
  exact⟨o,e,fun v z=>by rw[d]at z;cases z⟩
 keep:=fun i h h' st k=>st.at fun o e=>k it (by simp) o e
 item:=by
  intro X hP hw hK hc i pins s σ H E I hf st hg
  subst hP hw hK
  obtain⟨xs,x,hq,hx⟩:=hg
  obtain⟨its,rv,p,hz⟩:=I.list hq
  obtain⟨u,hu,ru⟩:=rv.get hx
  obtain⟨f0,f1,f2,f3,f4,f5⟩:=hf it (by simp)
  refine wpAny_pyNext_list_item st p.isList (x:=u) (by simpa using hu) fun h' st' sb=>?_
  have I1:Inv X pins σ H { s with heap:=h' }:=I.turned (t':=s.toks) (fun b o hb e=>(sb.2 b hb).trans e) f0 f1 f3 f4 f5
  obtain⟨o,e,c,d⟩:=id st'
  exact⟨u,rfl,y8s (s:={ s with heap:=h' }) e c d nofun ⟨x,H,I1,ru,⟨rfl,fun ys hy=>by rw[I.list_inj hy hq];exact hx⟩,st',fun b hb=>(hf b hb).1⟩⟩
 done:=by
  intro X hP hw hK hc i pins s σ H E I hf st hg
  subst hP hw hK
  obtain⟨xs,hq,hx⟩:=hg
  obtain⟨its,rv,p,hz⟩:=I.list hq
  obtain⟨f0,f1,f2,f3,f4,f5⟩:=hf it (by simp)
  have hl:=rv.length
  exact wpAny_pyNext_list_end (I.ok.hd hc) st p.isList (by simp;omega) fun h' eb=>⟨rfl,I.turned (t':=s.toks) (fun b o hb e=>eb b o hb e) f0 f1 f3 f4 f5⟩
 self:=fun _ _ _ _ _ st h=>wpAny_pyIter_listiter st h
theorem y5S{P:fw}{w:fx}{K:aa}{tg:Expr}(a it:Addr):Turn P w K tg (Itt K a) [it] it (fun i h=>h.IsTupleIter it a i) where
 mem:=by simp
 obj:=fun i h st b hb=>by
  have e:b=it:=by simpa using hb
  subst e
  obtain⟨o,e,c,d⟩:=st
  exact⟨o,e,fun v z=>by rw[d]at z;cases z⟩
 keep:=fun i h h' st k=>st.at fun o e=>k it (by simp) o e
 item:=by
  intro X hP hw hK hc i pins s σ H E I hf st hg
  subst hP hw hK
  obtain⟨xs,x,hq,hx⟩:=hg
  obtain⟨its,rv,p,hz⟩:=I.tuple hq
  obtain⟨u,hu,ru⟩:=rv.get hx
  obtain⟨f0,f1,f2,f3,f4,f5⟩:=hf it (by simp)
  refine wpAny_pyNext_tuple_item st (show s.heap.IsTuple a its.toArray from p) (x:=u) (by simpa using hu) fun h' st' sb=>?_
  have I1:Inv X pins σ H { s with heap:=h' }:=I.turned (t':=s.toks) (fun b o hb e=>(sb.2 b hb).trans e) f0 f1 f3 f4 f5
  obtain⟨o,e,c,d⟩:=id st'
  exact⟨u,rfl,y8s (s:={ s with heap:=h' }) e c d nofun ⟨x,H,I1,ru,⟨rfl,fun ys hy=>by rw[I.tuple_inj hy hq];exact hx⟩,st',fun b hb=>(hf b hb).1⟩⟩
 done:=by
  intro X hP hw hK hc i pins s σ H E I hf st hg
  subst hP hw hK
  obtain⟨xs,hq,hx⟩:=hg
  obtain⟨its,rv,p,hz⟩:=I.tuple hq
  obtain⟨f0,f1,f2,f3,f4,f5⟩:=hf it (by simp)
  have hl:=rv.length
  exact wpAny_pyNext_tuple_end (I.ok.hd hc) st (show s.heap.IsTuple a its.toArray from p) (by simp;omega) fun h' eb=>⟨rfl,I.turned (t':=s.toks) (fun b o hb e=>eb b o hb e) f0 f1 f3 f4 f5⟩
 self:=fun _ _ _ _ _ st h=>wpAny_pyIter_tupleiter st h
theorem y5s{P:fw}{w:fx}{K:aa}{tg:Expr}(it:Addr)(lo:Int)(n:Nat):Turn P w K tg (Itr lo n) [it] it (fun i h=>IsRangeIter h it (lo+(i:Nat)*1) ((n:Int) - (i:Nat)) 1) where
 mem:=by simp
 obj:=fun i h st b hb=>by
  have e:b=it:=by simpa using hb
  subst e
  exact⟨_,st,fun v z=>by
   have z':Data.fields _=Data.cell v:=z
   cases z'⟩
 keep:=fun i h h' st k=>k it (by simp) _ st
 item:=by
  intro X hP hw hK hc i pins s σ H E I hf st hg
  subst hP hw hK
  obtain⟨f0,f1,f2,f3,f4,f5⟩:=hf it (by simp)
  have W:=Walks.range (prog:=X.prog) (w:=X.w) (I.ok.hd hc) it lo 1 n
  refine W.item i s _ _ hg st fun v h' tk hv st' kk=>?_
  obtain⟨t,rfl⟩:=hv
  have I1:Inv X pins σ H { s with heap:=h',toks:=tk }:=I.turned (fun b o hb e=>kk b o (by simpa using hb) e) f0 f1 f3 f4 f5
  refine⟨_,rfl,y8s (s:={ s with heap:=h',toks:=tk }) (n := "range_iterator") st' rfl rfl nofun ⟨.int (lo+i),H,I1,⟨t,?_⟩,⟨rfl,rfl⟩,st',fun b hb=>(hf b hb).1⟩⟩
  rw[Int.mul_one]
 done:=by
  intro X hP hw hK hc i pins s σ H E I hf st hg
  subst hP hw hK
  obtain⟨f0,f1,f2,f3,f4,f5⟩:=hf it (by simp)
  exact wpAny_pyNext_range_end (I.ok.hd hc) st (by have:n≤i:=hg;omega) fun h' eb=>⟨rfl,I.turned (t':=s.toks) (fun b o hb e=>eb b o hb e) f0 f1 f3 f4 f5⟩
 self:=fun _ _ _ _ _ st h=>wpAny_pyIter_rangeiter st h
section
variable{X:Cx}{tg:Expr}
theorem y3Z{pins:AO}{σ:St}{H:Hp}{s:dw}{R:It->Hp->Prop}{E:Value->dw->Prop}{lo hi:Int}{t u v:Tok}{tk:Nat}(I:Inv X pins σ H s)(h1:-(2 ^ 62)≤lo)(h2:lo<2 ^ 62)(h3:-(2 ^ 62)≤hi)(h4:hi<2 ^ 62)
  (q:R (Itr lo (hi - lo).toNat) H):wpAny (model X.prog X.w) X.A (pyIter (.ref s.heap.objs.size)) (PIE X pins σ tg R) E { s with heap:=s.heap.push { cls:=.type "range",data:=.fields #[.int lo t,.int hi u,.int 1 v] },toks:=tk }:=by
 refine wpAny_pyIter_range (IsRange.new ..) (small_one h1 h2 h3 h4) ?_
 have I1:Inv X pins σ H { s with heap:=s.heap.push { cls:=.type "range",data:=.fields #[.int lo t,.int hi u,.int 1 v] },toks:=tk }:=I.kept fun b o e=>Heap.get?_push_of_some _ e
 refine⟨(s.heap.push { cls:=.type "range",data:=.fields #[.int lo t,.int hi u,.int 1 v] }).objs.size,[(s.heap.push { cls:=.type "range",data:=.fields #[.int lo t,.int hi u,.int 1 v] }).objs.size],_,_,H,rfl,
  I1.kept (t':=tk) fun b o e=>Heap.get?_push_of_some _ e,y5s _ lo (hi - lo).toNat,?_,fun b hb=>?_,q⟩
 ·have e1:lo+((0:Nat):Int)*1=lo:=by simp
  have e2:(((hi - lo).toNat:Nat):Int) - ((0:Nat):Int)=Builtin.Range.rangeSize lo hi 1:=by rw[rangeSize_one];split <;> omega
  show IsRangeIter _ _ (lo+((0:Nat):Int)*1) ((((hi - lo).toNat:Nat):Int) - ((0:Nat):Int)) 1
  rw[e1,e2]
  exact Heap.get?_push_size _ rfl
 ·have e:b=(s.heap.push { cls:=.type "range",data:=.fields #[.int lo t,.int hi u,.int 1 v] }).objs.size:=by simpa using hb
  subst e
  exact I1.fpOk (ar _) (I1.hok.fresh (ar _))
def iRng1(ta:TA):TI:=fun σ H R=>ta σ H fun vs H1=>∃j:Int,vs=[.int j]∧-(2 ^ 62)≤j∧j<2 ^ 62∧R (Itr 0 j.toNat) H1
def iRng2(ta:TA):TI:=fun σ H R=>ta σ H fun vs H1=>∃i j:Int,vs=[.int i,.int j]∧(-(2 ^ 62)≤i∧i<2 ^ 62∧-(2 ^ 62)≤j∧j<2 ^ 62)∧R (Itr i (j - i).toNat) H1
theorem y9X{a:Expr}{ta:TA}{p pos:Pos}(hg:Gl X "range")(hm:X.mg "range" = none)(ha:PA X [a] ta)(hs:starEach [a] X.env=[(false,eval a X.env)]:=by rfl):PI X tg (.Call (.Name "range" p) [a] [] pos) (iRng1 ta):=by
 intro pins s σ H R I h
 refine Call_ (z3Y I hg hm boot_range (PyProof.Rows.callWith_type1 (thn (ha pos pins s σ H _ I h) fun us s1 ⟨vs,H1,I1,r1,q1⟩=>?_) hs rfl))
 obtain⟨j,e,q1,q2,q⟩:=q1
 subst e
 cases r1 with
 |cons r rr=>
  cases rr
  obtain⟨t,rfl⟩:=r
  exact call_range_1 (y3Z I1 ⋯ ⋯ q1 q2 (by simpa using q))
theorem y6U{a b:Expr}{ta:TA}{p pos:Pos}(hg:Gl X "range")(hm:X.mg "range" = none)(ha:PA X [a,b] ta)(hs:starEach [a,b] X.env=[(false,eval a X.env),(false,eval b X.env)]:=by rfl)(hs2:starEach [b] X.env=[(false,eval b X.env)]:=by rfl):
  PI X tg (.Call (.Name "range" p) [a,b] [] pos) (iRng2 ta):=by
 intro pins s σ H R I h
 refine Call_ (z3Y I hg hm boot_range (PyProof.Rows.callWith_type1 (thn (ha pos pins s σ H _ I h) fun us s1 ⟨vs,H1,I1,r1,q1⟩=>?_) (by rw[hs,hs2]) (by rw[hs2];rfl)))
 obtain⟨i,j,e,⟨q1,q2,q3,q4⟩,q⟩:=q1
 subst e
 cases r1 with
 |cons r rr=>
  cases rr with
  |cons r' rr=>
   cases rr
   obtain⟨t,rfl⟩:=r
   obtain⟨t',rfl⟩:=r'
   exact call_range_2 (y3Z I1 q1 q2 q3 q4 q)
def tFor(wi:TI)(g:TG)(tb:TS):TS:=fun D σ H=>wi σ H fun J H1=>∃W:Nat->Nat->St->Hp->Prop,(∃m,W 0 m σ H1)∧∀i m σ H,W i m σ H →
 (J.stop i H∧D.nx σ H)∨(J.go i H∧∃N:St->Hp->Prop,(∀σ' H',N σ' H'->∃m',m'<m∧W (i+1) m' σ' H')∧∀x H',J.yld i H x H'->g x σ H' fun σ2 H2=>tb { D with nx:=N,ct:=N,bk:=D.nx } σ2 H2)
def y1c(fp:List Addr)(h:Heap):AO:=fp.filterMap fun b=>(h.get? b).map fun o=>(b,o)
theorem z4I{fp:List Addr}{h:Heap}{b:Addr}{o:Obj}(hb:b∈fp)(e:h.get? b=some o):(b,o)∈y1c fp h:=fq.mpr ⟨b,hb,by rw[e];rfl⟩
theorem y8t{fp:List Addr}{h:Heap}{p:Addr×Obj}(hp:p∈y1c fp h):p.1∈fp∧h.get? p.1=some p.2:=by
 obtain⟨b,hb,e⟩:=fq.mp hp
 cases q:h.get? b with
 |none=>rw[q]at e;cases e
 |some o=>
  rw[q]at e
  have e':(b,o)=p:=Option.some.inj e
  subst e'
  exact⟨hb,q⟩
theorem Inv.pinned{pins:AO}{σ:St}{H:Hp}{s:dw}{fp:List Addr}(I:Inv X pins σ H s)(hf:∀b∈fp,y0B X pins H b)(ho:∀b∈fp,∃o,s.heap.get? b=some o∧∀v,o.data≠.cell v):Inv X (pins++y1c fp s.heap) σ H s:=
 I.pins_of fun p hp=>(au.mp hp).elim (fun z=>I.pin p (aC _ z)) fun z=>by
  obtain⟨hb,e⟩:=y8t z
  obtain⟨f0,f1,f2,_⟩:=hf p.1 hb
  obtain⟨o,e',d⟩:=ho p.1 hb
  rw[e]at e';cases e'
  exact⟨e,f0,f1,f2,d⟩
theorem Inv.unpinned{pins pl:AO}{σ:St}{H:Hp}{s:dw}(I:Inv X (pins++pl) σ H s):Inv X pins σ H s:=I.pins_of fun p hp=>I.pin p (aC _ (aQ _ hp))
theorem y9D{iter:Expr}{body:List Stmt}{wi:TI}{g:TG}{tb:TS}{pos:Pos}(hp:PassesOwn (model X.prog X.w) X.A X.env X.xe)(hc:X.calm=true)(hi:PI X tg iter wi)(hg:PG X tg g)(hb:PSs X body tb)
  (hs:∀x,foldedSetIterable iter X.env x=pure x:=by intro _;rfl):PS X (.For tg iter body [] pos) (tFor wi g tb):=by
 intro pins s σ H D I h
 refine wpAny_For (thn (hi pins s σ H _ I h) fun v s1 h1=>thn h1 fun itv s2 h2=>?_) hs
 obtain⟨it,fp,tn,J,H2,e,I2,T,st2,f2,W,⟨m0,w0⟩,turn⟩:=h2
 subst e
 have stat:∀{H':Hp},(∀b∈fp,H' b=none)->∀b∈fp,y0B X pins H' b:=fun hn b hb=>⟨hn b hb,(f2 b hb).2⟩
 refine codeAny_forLoop_any (fun n s'=>∃i σ' H',Inv X pins σ' H' s'∧tn i s'.heap∧(∀b∈fp,H' b=none)∧W i n σ' H') ?_ m0 ⟨0,σ,H2,I2,st2,fun b hb=>(f2 b hb).1,w0⟩
 rintro n s3 ⟨i,σ3,H3,I3,st3,fr3,w3⟩
 rcases turn i n σ3 H3 w3 with⟨stop,qn⟩ | ⟨go,N,hN,step⟩
 ·refine wpAny_passesOwn hp (thn (T.done X rfl rfl rfl hc i pins s3 σ3 H3 X.xe I3 (stat fr3) st3 stop) fun r s4 ⟨hr,I4⟩=>?_)
  subst hr
  exact wpAny_execs_nil ⟨σ3,H3,I4,qn⟩
 ·refine wpAny_passesOwn hp (thn (T.item X rfl rfl rfl hc i pins s3 σ3 H3 X.xe I3 (stat fr3) st3 go) fun r s4 ⟨u,hr,h4⟩=>?_)
  subst hr
  refine wpAny_passesOwn hp (thn h4 fun _ s5 ⟨x,H5,I5,r5,y5,st5,fr5⟩=>?_)
  have I5':=I5.pinned (stat fr5) (T.obj _ _ st5)
  refine wpAny_passesOwn hp (thn (hg _ s5 σ3 H5 x u _ I5' r5 (step x H5 y5)) fun _ s6 ⟨σ6,H6,I6,q6⟩=>?_)
  refine wpAny_passesOwn hp (thn (hb _ s6 σ6 H6 _ I6 q6) fun f s7 q7=>?_)
  have again:∀{σ7:St} {H7:Hp},Inv X (pins++y1c fp s5.heap) σ7 H7 s7->N σ7 H7->∃m,m<n∧∃i σ' H',Inv X pins σ' H' s7∧tn i s7.heap∧(∀b∈fp,H' b=none)∧W i m σ' H':=fun {σ7 H7} I7 n7=>by
   obtain⟨m',hm,w7⟩:=hN σ7 H7 n7
   refine⟨m',hm,i+1,σ7,H7,I7.unpinned,T.keep _ _ _ st5 fun b hb o e=>(I7.pin (b,o) (aC _ (aC _ (z4I hb e)))).1,fun b hb=>?_,w7⟩
   obtain⟨o,e,d⟩:=T.obj _ _ st5 b hb
   exact(I7.pin (b,o) (aC _ (aC _ (z4I hb e)))).2.1
  cases f with
  |next=>obtain⟨σ7,H7,I7,n7⟩:=q7;exact again I7 n7
  |cont=>obtain⟨σ7,H7,I7,n7⟩:=q7;exact again I7 n7
  |brk=>obtain⟨σ7,H7,I7,q7⟩:=q7;exact⟨σ7,H7,I7.unpinned,q7⟩
  |ret v=>obtain⟨x7,σ7,H7,I7,r7,q7⟩:=q7;exact⟨x7,σ7,H7,I7.unpinned,r7,q7⟩
end
theorem y0c{K:aa}{a:Addr}{xs:List V}{g:TG}{tb:TS}{D:Ends}{σ:St}{H:Hp}(Pv:Nat->St->Hp->Prop)(h0:Pv 0 σ H)(hl:∀i σ H,i≤xs.length->Pv i σ H->SqL K H a xs)
  (hs:∀i x σ H,xs[i]? = some x->Pv i σ H->g x σ H fun σ2 H2=>tb { D with nx:=Pv (i+1),ct:=Pv (i+1),bk:=D.nx } σ2 H2) (hd:∀σ H,Pv xs.length σ H->D.nx σ H):
  ∃W:Nat->Nat->St->Hp->Prop,(∃m,W 0 m σ H)∧∀i m σ H,W i m σ H →
   ((Itl K a).stop i H∧D.nx σ H)∨((Itl K a).go i H∧∃N:St->Hp->Prop,(∀σ' H',N σ' H'->∃m',m'<m∧W (i+1) m' σ' H')∧∀x H',(Itl K a).yld i H x H'->g x σ H' fun σ2 H2=>tb { D with nx:=N,ct:=N,bk:=D.nx } σ2 H2):=by
 refine⟨fun i m σ H=>m=xs.length - i∧i≤xs.length∧Pv i σ H,⟨xs.length,by simp,bn _,h0⟩,?_⟩
 rintro i m σ H ⟨rfl,hi,p⟩
 have q:=hl i σ H hi p
 by_cases hlt:i<xs.length
 ·refine .inr ⟨⟨xs,xs[i],q,by simp[hlt]⟩,Pv (i+1),fun σ' H' p'=>⟨xs.length - (i+1),by omega,rfl,hlt,p'⟩,fun x H' y=>?_⟩
  obtain⟨e,y⟩:=y
  subst e
  exact hs i x σ _ (y xs q) p
 ·have e:i=xs.length:=by omega
  subst e
  exact .inl ⟨⟨xs,q,ar _⟩,hd σ H p⟩
abbrev R2:=V->V->Hp->VK->Prop
def OpR(X:Cx)(f:Value->Value->Sem Value)(r:R2):Prop:=
 ∀(pins:AO) (s:dw) (σ:St) (H:Hp) (x y:V) (v u:Value) (Q:VK),Inv X pins σ H s->RelV x v->RelV y u->r x y H Q →
  wpAny (model X.prog X.w) X.A (f v u) (EP X pins σ Q) X.xe s
def UnR(X:Cx)(f:Value->Sem Value)(r:V->Hp->VK->Prop):Prop:=
 ∀(pins:AO) (s:dw) (σ:St) (H:Hp) (x:V) (v:Value) (Q:VK),Inv X pins σ H s->RelV x v->r x H Q →
  wpAny (model X.prog X.w) X.A (f v) (EP X pins σ Q) X.xe s
def z5r(X:Cx)(f:Value)(r:List V->Hp->VK->Prop):Prop:=
 ∀(pins:AO) (s:dw) (σ:St) (H:Hp) (xs:List V) (us:List Value) (Q:VK),Inv X pins σ H s->Vals xs us->r xs H Q →
  wpAny (model X.prog X.w) X.A (call f us) (EP X pins σ Q) X.xe s
def TruR(X:Cx)(r:V->Hp->(Bool->Hp->Prop)->Prop):Prop:=
 ∀(pins:AO) (s:dw) (σ:St) (H:Hp) (x:V) (v:Value) (Q:Bool->Hp->Prop),Inv X pins σ H s->RelV x v->r x H Q →
  wpAny (model X.prog X.w) X.A (truthy v) (TP X pins σ Q) X.xe s
def tOp(r:R2)(ta tb:TE):TE:=fun σ H Q=>ta σ H fun x H1=>tb σ H1 fun y H2=>r x y H2 Q
def tUn(r:V->Hp->VK->Prop)(ta:TE):TE:=fun σ H Q=>ta σ H fun x H1=>r x H1 Q
def rI(C:Int->Int->Prop)(g:Int->Int->V):R2:=fun x y H Q=>∃i j,x = .int i∧y = .int j∧C i j∧Q (g i j) H
def rI0(g:Int->Int->V):R2:=fun x y H Q=>∃i j,x = .int i∧y = .int j∧Q (g i j) H
def rU(g:Int->V):V->Hp->VK->Prop:=fun x H Q=>∃i,x = .int i∧Q (g i) H
section
variable{X:Cx}{a b:Expr}{ta tb:TE}{pos:Pos}
theorem binT(ha:PE X a ta)(hb:PE X b tb){pins:AO}{s:dw}{σ:St}{H:Hp}{R:V->V->Hp->Prop}(I:Inv X pins σ H s)
  (h:ta σ H fun x H1=>tb σ H1 fun y H2=>R x y H2) {Q:Value->dw->Prop} {f:Value->Value->Sem Value}
  (hf:∀v u s2 x y H2,Inv X pins σ H2 s2->RelV x v->RelV y u->R x y H2->wpAny (model X.prog X.w) X.A (f v u) Q X.xe s2):
  wpAny (model X.prog X.w) X.A (eval a X.env) (fun v s₁=>wpAny (model X.prog X.w) X.A (eval b X.env) (fun u s₂=>wpAny (model X.prog X.w) X.A (f v u) Q X.xe s₂) X.xe s₁) X.xe s:=by
 refine thn (ha pins s σ H _ I h) fun v s1 ⟨x,H1,I1,r1,q1⟩=>?_
 refine thn (hb pins s1 σ H1 _ I1 q1) fun u s2 ⟨y,H2,I2,r2,q2⟩=>?_
 exact hf v u s2 x y H2 I2 r1 r2 q2
theorem x1t{op:Operator}{r:R2}(ho:OpR X (binaryOp op) r)(ha:PE X a ta)(hb:PE X b tb):PE X (.BinOp a op b pos) (tOp r ta tb):=by
 intro pins s σ H Q I h
 exact wpAny_BinOp (binT ha hb I h fun v u s2 x y H2 I2 rx ry q=>ho pins s2 σ H2 x y v u Q I2 rx ry q)
theorem pe_un{op:UnaryOp}{r:V->Hp->VK->Prop}(ho:UnR X (unaryOp op) r)(ha:PE X a ta):PE X (.UnaryOp op a pos) (tUn r ta):=by
 intro pins s σ H Q I h
 exact UnaryOp_ (thn (ha pins s σ H _ I h) fun v s1 ⟨x,H1,I1,r1,q1⟩=>ho pins s1 σ H1 x v Q I1 r1 q1)
theorem opI{f:Value->Value->Sem Value}{C:Int->Int->Prop}{g:Int->Int->Int}
  (rule:∀(i j:Int) (t u:Tok) (s:dw) (Q:Value->dw->Prop) (E:Value->dw->Prop),C i j->Q (.int (g i j) s.toks) { s with toks:=s.toks+1 }->wpAny (model X.prog X.w) X.A (f (.int i t) (.int j u)) Q E s):
  OpR X f (rI C fun i j=>.int (g i j)):=by
 intro pins s σ H x y v u Q I rx ry h
 obtain⟨i,j,rfl,rfl,hc,q⟩:=h
 obtain⟨t,rfl⟩:=rx
 obtain⟨t',rfl⟩:=ry
 exact rule i j t t' s _ _ hc ⟨.int (g i j),H,I.tok _,⟨_,rfl⟩,q⟩
theorem opI0{f:Value->Value->Sem Value}{g:Int->Int->Int}
  (rule:∀(i j:Int) (t u:Tok) (s:dw) (Q:Value->dw->Prop) (E:Value->dw->Prop),Q (.int (g i j) s.toks) { s with toks:=s.toks+1 }->wpAny (model X.prog X.w) X.A (f (.int i t) (.int j u)) Q E s):
  OpR X f (rI0 fun i j=>.int (g i j)):=by
 intro pins s σ H x y v u Q I rx ry h
 obtain⟨i,j,rfl,rfl,q⟩:=h
 obtain⟨t,rfl⟩:=rx
 obtain⟨t',rfl⟩:=ry
 exact rule i j t t' s _ _ ⟨.int (g i j),H,I.tok _,⟨_,rfl⟩,q⟩
theorem opB0{f:Value->Value->Sem Value}{g:Int->Int->Bool}
  (rule:∀(i j:Int) (t u:Tok) (s:dw) (Q:Value->dw->Prop) (E:Value->dw->Prop),Q (.bool (g i j)) s->wpAny (model X.prog X.w) X.A (f (.int i t) (.int j u)) Q E s):
  OpR X f (rI0 fun i j=>.bl (g i j)):=by
 intro pins s σ H x y v u Q I rx ry h
 obtain⟨i,j,rfl,rfl,q⟩:=h
 obtain⟨t,rfl⟩:=rx
 obtain⟨t',rfl⟩:=ry
 exact rule i j t t' s _ _ ⟨.bl (g i j),H,I,rfl,q⟩
def CDiv(i j:Int):Prop:=0<j∧j<1073741824
def CDivN(i j:Int):Prop:=j≠0∧j.natAbs<1073741824
def CPow(i j:Int):Prop:=0≤j∧j≤1000000∧i.natAbs<2 ^ 64
def CMul(i j:Int):Prop:=(-(2 ^ 64)<i∧i<2 ^ 64)∨(-(2 ^ 64)<j∧j<2 ^ 64)
theorem CMul.ok{i j:Int}(h:CMul i j):IntMulOk i j:=by
 rcases h with⟨h1,h2⟩ | ⟨h1,h2⟩
 ·exact .of_left (intBits_le_64 h1 h2)
 ·exact .of_right (intBits_le_64 h1 h2)
theorem op_add:OpR X (binaryOp .Add) (rI0 fun i j=>.int (i+j)):=opI0 fun _ _ _ _ _ _ _ q=>add_int q
theorem op_mul:OpR X (binaryOp .Mult) (rI CMul fun i j=>.int (i*j)):=opI fun _ _ _ _ _ _ _ hc q=>mul_int q hc.ok
theorem op_fdiv:OpR X (binaryOp .FloorDiv) (rI CDiv fun i j=>.int (i / j)):=opI fun i j _ _ _ _ _ hc q=>by
 have h1:(0:Int)<j:=hc.1
 have h2:j<1073741824:=hc.2
 exact floordiv_int ⋯ (by rw[Int.fdiv_eq_ediv_of_nonneg i ⋯];exact q) (.inl (PyProof.noPylong_small ⋯))
theorem op_mod:OpR X (binaryOp .Mod) (rI (fun _ j=>0<j) fun i j=>.int (i % j)):=opI fun i j _ _ _ _ _ hc q=>by
 have h1:(0:Int)<j:=hc
 exact mod_int' ⋯ (by rw[Int.fmod_eq_emod_of_nonneg i ⋯];exact q)
theorem unI{f:Value->Sem Value}{g:Int->Int}
  (rule:∀(i:Int) (t:Tok) (s:dw) (Q:Value->dw->Prop) (E:Value->dw->Prop),Q (.int (g i) s.toks) { s with toks:=s.toks+1 }->wpAny (model X.prog X.w) X.A (f (.int i t)) Q E s):
  UnR X f (rU fun i=>.int (g i)):=by
 intro pins s σ H x v Q I rx h
 obtain⟨i,rfl,q⟩:=h
 obtain⟨t,rfl⟩:=rx
 exact rule i t s _ _ ⟨.int (g i),H,I.tok _,⟨_,rfl⟩,q⟩
theorem un_neg:UnR X (unaryOp .USub) (rU fun i=>.int (-i)):=unI fun _ _ _ _ _ q=>neg_int q
end
section
variable{X:Cx}{a b c:Expr}{ta tb tc:TE}{pos:Pos}
theorem op_lt:OpR X (compareOp .Lt) (rI0 fun i j=>.bl (decide (i<j))):=opB0 fun _ _ _ _ _ _ _ q=>lt_int q
theorem op_le:OpR X (compareOp .LtE) (rI0 fun i j=>.bl (decide (i≤j))):=opB0 fun _ _ _ _ _ _ _ q=>le_int q
theorem op_gt:OpR X (compareOp .Gt) (rI0 fun i j=>.bl (decide (j<i))):=opB0 fun _ _ _ _ _ _ _ q=>gt_int q
theorem y1T(b:Expr){op:CmpOp}(h:op≠.In:=by decide)(h2:op≠.NotIn:=by decide):fB op b=false:=by
 have e1:(op==CmpOp.In)=false:=by cases op <;> first | rfl | exact absurd rfl h
 have e2:(op==CmpOp.NotIn)=false:=by cases op <;> first | rfl | exact absurd rfl h2
 cases b <;> simp[fB,e1,e2]
theorem pe_cmpR{op:CmpOp}{r:R2}(ho:OpR X (compareOp op) r)(ha:PE X a ta)(hb:PE X b tb)(hm:fB op b=false):PE X (.Compare a [op] [b] pos) (tOp r ta tb):=by
 intro pins s σ H Q I h
 exact wpAny_Compare1 (binT ha hb I h fun v u s2 x y H2 I2 rx ry q=>ho pins s2 σ H2 x y v u Q I2 rx ry q) hm
def tTest(t:TE):TT:=fun σ H Q=>t σ H fun x H'=>∃k,x = .bl k∧Q k H'
theorem pt_cmpR{op:CmpOp}{r:R2}(ho:OpR X (compareOp op) r)(ha:PE X a ta)(hb:PE X b tb)(hm:fB op b=false):PT X (.Compare a [op] [b] pos) (tTest (tOp r ta tb)):=by
 intro pins s σ H Q I h
 refine wpAny_isTrue_Compare1 (thn (ha pins s σ H _ I h) fun v s1 ⟨x,H1,I1,r1,q1⟩=>thn (hb pins s1 σ H1 _ I1 q1) fun u s2 ⟨y,H2,I2,r2,q2⟩=>
  thn (ho pins s2 σ H2 x y v u _ I2 r1 r2 q2) fun c s3 ⟨z,H3,I3,r3,k,e,q3⟩=>?_) hm
 subst e
 cases r3
 exact wpAny_truthy_bool ⟨H3,I3,q3⟩
def x3H(r r':R2)(ta tb tc:TE):TE:=fun σ H Q=>ta σ H fun x H1=>tb σ H1 fun y H2=>r x y H2 fun z H3=>∃k,z = .bl k ∧
 (if k=true then tc σ H3 fun w' H4=>r' y w' H4 Q else Q (.bl false) H3)
theorem x0t{op op':CmpOp}{r r':R2}(ho:OpR X (compareOp op) r)(ho':OpR X (compareOp op') r')(ha:PE X a ta)(hb:PE X b tb)(hc:PE X c tc)
  (hm:lastMarks [op,op'] [b,c]=false:=by with_unfolding_all rfl):PE X (.Compare a [op,op'] [b,c] pos) (x3H r r' ta tb tc):=by
 intro pins s σ H Q I h
 refine Compare_chain (thn (ha pins s σ H _ I h) fun v s1 ⟨x,H1,I1,r1,q1⟩=>chain_link (thn (hb pins s1 σ H1 _ I1 q1) fun u s2 ⟨y,H2,I2,r2,q2⟩=>
  thn (ho pins s2 σ H2 x y v u _ I2 r1 r2 q2) fun d s3 ⟨z,H3,I3,r3,k,e,q3⟩=>?_)) hm
 subst e
 cases r3
 refine wpAny_truthy_bool ?_
 cases k with
 |false=>exact ite_ff ⟨.bl false,H3,I3,rfl,q3⟩
 |true=>exact ite_tt (chain_last (thn (hc pins s3 σ H3 _ I3 q3) fun w' s4 ⟨z',H4,I4,r4,q4⟩=>ho' pins s4 σ H4 y z' u w' Q I4 r2 r4 q4))
def TruV(K:aa)(x:V)(H:Hp)(k:Bool):Prop:=
 match x with
 |.non=>k=false
 |.bl b=>k=b
 |.int i=>k=(i != 0)
 |.str y=>y.length≤sizeLine∧k=((y.length:Int) != 0)
 |.byt y=>y.size≤sizeLine∧k=((y.size:Int) != 0)
 |.ref p=>(∃xs,SqL K H p xs∧k = !xs.isEmpty)∨(∃xs,SqT K H p xs∧k = !xs.isEmpty)∨∃kvs,H p=some (.dK kvs)∧k = !kvs.isEmpty
 |_=>False
theorem y6f{κ:Type}{kvs:List (κ×V)}{vs:List (κ×Value)}(r:KV kvs vs):(!vs.isEmpty) = !kvs.isEmpty:=by
 cases r <;> rfl
theorem z8W{xs:List V}{its:List Value}(r:Vals xs its):(!its.toArray.isEmpty) = !xs.isEmpty:=by
 cases r <;> simp
theorem z8P:(sizeLine:Nat)<2 ^ 63:=by rw[sizeLine_eq];decide
theorem tru_ok:TruR X (fun x H Q=>∃k,TruV X.K x H k∧Q k H):=by
 intro pins s σ H x v Q I rx h
 obtain⟨k,e,q⟩:=h
 have hl:=z8P
 have hs:sizeLine=16777216:=sizeLine_eq
 cases x with
 |non=>
  cases rx
  have e':k=false:=e
  subst e'
  exact truthy_none ⟨H,I,q⟩
 |bl b=>
  cases rx
  have e':k=b:=e
  subst e'
  exact wpAny_truthy_bool ⟨H,I,q⟩
 |int i=>
  obtain⟨t,rfl⟩:=rx
  have e':k=(i != 0):=e
  subst e'
  exact PySem.P.truthy_int ⟨H,I,q⟩
 |str y=>
  obtain⟨t,rfl⟩:=rx
  obtain⟨hy,e'⟩:y.length≤sizeLine∧k=((y.length:Int) != 0):=e
  subst e'
  exact PySem.P.truthy_str ⋯ ⟨H,I.tok _,q⟩
 |byt y=>
  obtain⟨t,rfl⟩:=rx
  obtain⟨hy,e'⟩:y.size≤sizeLine∧k=((y.size:Int) != 0):=e
  subst e'
  exact PySem.W.truthy_bytes ⋯ ⟨H,I.tok _,q⟩
 |ref p=>
  cases rx
  have e':(∃xs,SqL X.K H p xs∧k = !xs.isEmpty)∨(∃xs,SqT X.K H p xs∧k = !xs.isEmpty)∨∃kvs,H p=some (.dK kvs)∧k = !kvs.isEmpty:=e
  rcases e' with⟨xs,hx,e'⟩ | ⟨xs,hx,e'⟩ | ⟨kvs,hx,e'⟩
  ·subst e'
   obtain⟨its,r,pl,hz⟩:=I.list hx
   have hlen:=r.length
   exact wpAny_truthy_list pl.isList (by simp only[ay];omega) ⟨H,I.tok _,by rw[z8W r];exact q⟩
  ·subst e'
   obtain⟨its,r,pl,hz⟩:=I.tuple hx
   have hlen:=r.length
   exact truthy_tuple pl (by simp only[ay];omega) ⟨H,I.tok _,by rw[z8W r];exact q⟩
  ·subst e'
   obtain⟨hz,hS,vs,r,m⟩:kvs.length≤sizeLine∧(p==sysModules)=false∧∃vs,KV kvs vs∧s.heap.DictOf (z1l X.prog X.w) p vs:=I.hok p _ hx
   have hlen:kvs.length=vs.length:=Paired.length r
   exact wpAny_truthy_dict hS m ⋯ ⟨H,I.tok _,by rw[y6f r];exact q⟩
 |_=>exact(show False from e).elim
theorem x1O(ha:PE X a ta)(he:∀whole,isTrue a X.env whole=(do let v ←whole;standAt a.pos;holding [v] (truthy v))):
  PT X a (fun σ H Q=>ta σ H fun x H'=>∃k,TruV X.K x H' k∧Q k H'):=by
 intro pins s σ H Q I h
 exact isTrue_plain (thn (ha pins s σ H _ I h) fun v s1 ⟨x,H1,I1,r1,q1⟩=>tru_ok pins s1 σ H1 x v Q I1 r1 q1) (he _)
theorem y0a{x:V}{us:List Value}(r:Vals [x] us):∃u,us=[u]∧RelV x u:=by
 cases r with
 |cons r1 r2=>cases r2;exact⟨_,rfl,r1⟩
theorem vals2{x y:V}{us:List Value}(r:Vals [x,y] us):∃u w',us=[u,w']∧RelV x u∧RelV y w':=by
 cases r with
 |cons r1 r2=>
  cases r2 with
  |cons r3 r4=>cases r4;exact⟨_,_,rfl,r1,r3⟩
theorem y7W:z5r X (.type "int") (fun xs H Q=>(∃i,xs=[.int i]∧Q (.int i) H)∨∃k,xs=[.bl k]∧Q (.int (if k then 1 else 0)) H):=by
 intro pins s σ H xs us Q I r h
 rcases h with⟨i,rfl,q⟩ | ⟨k,rfl,q⟩
 ·obtain⟨u,rfl,t,rfl⟩:=y0a r
  exact call_int_int ⟨.int i,H,I,⟨_,rfl⟩,q⟩
 ·obtain⟨u,rfl,r1⟩:=y0a r
  cases r1
  exact call_int_bool ⟨.int (if k then 1 else 0),H,I.tok _,⟨_,rfl⟩,q⟩
def LenV(K:aa)(x:V)(H:Hp)(n:Nat):Prop:=
 match x with
 |.str y=>y.length≤sizeLine∧n=y.length
 |.byt y=>y.size≤sizeLine∧n=y.size
 |.ref p=>(∃xs,SqL K H p xs∧n=xs.length)∨∃xs,SqT K H p xs∧n=xs.length
 |_=>False
theorem x1k:z5r X (.builtin "len") (fun xs H Q=>∃x n,xs=[x]∧LenV X.K x H n∧Q (.int n) H):=by
 intro pins s σ H xs us Q I r h
 obtain⟨x,n,rfl,e,q⟩:=h
 obtain⟨u,rfl,rx⟩:=y0a r
 have hl:=z8P
 have hs:sizeLine=16777216:=sizeLine_eq
 cases x with
 |str y=>
  obtain⟨t,rfl⟩:=rx
  obtain⟨hy,e'⟩:y.length≤sizeLine∧n=y.length:=e
  subst e'
  exact len_str ⋯ ⟨.int _,H,I.tok _,⟨_,rfl⟩,q⟩
 |byt y=>
  obtain⟨t,rfl⟩:=rx
  obtain⟨hy,e'⟩:y.size≤sizeLine∧n=y.size:=e
  subst e'
  exact PySem.W.len_bytes ⋯ ⟨.int _,H,I.tok _,⟨_,rfl⟩,q⟩
 |ref p=>
  cases rx
  have e':(∃xs,SqL X.K H p xs∧n=xs.length)∨∃xs,SqT X.K H p xs∧n=xs.length:=e
  rcases e' with⟨xs,hx,e'⟩ | ⟨xs,hx,e'⟩
  ·subst e'
   obtain⟨its,r',pl,hz⟩:=I.list hx
   have hlen:=r'.length
   exact Calls.call_len_list pl.isList (by simp only[ay];omega) ⟨.int xs.length,H,I.tok _,⟨_,by simp only[ay];rw[hlen]⟩,q⟩
  ·subst e'
   obtain⟨its,r',pl,hz⟩:=I.tuple hx
   have hlen:=r'.length
   exact len_tuple pl (by simp only[ay];omega) ⟨.int xs.length,H,I.tok _,⟨_,by simp only[ay];rw[hlen]⟩,q⟩
 |_=>exact(show False from e).elim
end
structure ObjM(h:Heap)(x dx C:Addr)(mA:Str->Option Value):Prop where
 obj:h.get? x=some (dM C dx)
 ns:h.Ns1 dx mA
 ne:dx≠x
theorem y6l{h:Heap}{dx:Addr}{mA:Str->Option Value}(n:h.Ns1 dx mA):∃od,h.get? dx=some od∧∀name,dS name od=some (mA name):=by
 obtain⟨o,es,ep,ho,hd,hk,_,hm⟩:=n
 refine⟨o,ho,fun name=>?_⟩
 have e:=hm name
 unfold nsFind findBy at e
 rw[←Array.find?_toList]at e
 unfold dS
 rw[hd]
 dsimp only
 split
 ·rename_i y q
  rw[q]at e
  exact congrArg some e
 ·rename_i q
  rw[q]at e
  have a:es.toList.any (·.refKey)=false:=by
   rw[cO]
   intro y hy
   obtain⟨z,t,hkey⟩:=hk y (Array.mem_toList_iff.mp hy)
   simp[DictEntry.refKey,hkey]
  have a':¬ es.toList.any (·.refKey)=true:=by rw[a];exact av
  rw[if_neg a']
  exact congrArg some e
theorem ObjM.look{h:Heap}{x dx C:Addr}{mA:Str->Option Value}(I:ObjM h x dx C mA):∃od,cW h x (dM C dx) C (some od)∧∀name,dS name od=some (mA name):=
 let⟨od,ho,hl⟩:=y6l I.ns
 ⟨od,⟨I.obj,rfl,rfl,ho⟩,hl⟩
section
end
section
variable{P:fw}{w:fx}{H:Hp}{h:Heap}{a C dx:Addr}{fs:List (Str×V)}
theorem ins_get(hok:HOk P w H h)(e:H a=some (.ins C dx fs)):∃mA,ObjM h a dx C mA∧(∀f,RelO (fs.lookup f) (mA f))∧PySem.Within mA (fs.map (·.1))∧fs.length≤1000∧H dx=some (.own a):=by
 obtain⟨d,z,ne,ob,mA,n,r,q⟩:=(show ObjOk P w H h a (.ins C dx fs) from hok a _ e)
 exact⟨mA,⟨ob,n,ne⟩,r,q,z,d⟩
end
structure Cls(K:aa)(C:Addr):Prop where
 pg:dE K C Str.empty=true
 hd:eX K C=true
 po:eW K C=true
 sa:aV K (.ref C) "__setattr__" = some (some (.builtin "object.__setattr__"))
theorem Cls.get{K:aa}{C:Addr}(c:Cls K C)(f:Str):dE K C f=true:=c.pg
def NoAttr(K:aa)(C:Addr)(f:Str):Prop:=aV K (.ref C) f=some none
structure Con(K:aa)(C:Addr)(f:Str)(v:V)(u:Value):Prop where
 at_:aV K (.ref C) f=some (some u)
 rel:RelV v u
 get:bT K u "__get__" = some none
 cp:PySem.W.copiedNames.contains f=false
structure Meth(K:aa)(C:Addr)(m:Str)(f:Addr):Prop where
 at_:aV K (.ref C) m=some (some (.ref f))
 fn:PySem.W.isFn K (.ref f)=true
 kp:bB K (.ref f)=true
section
end
section
end
section
variable{H:Hp}
inductive TyOf(K:aa)(H:Hp):V->Value->Prop where
 |non:TyOf K H .non (.type "NoneType")
 |bl (x:Bool):TyOf K H (.bl x) (.type "bool")
 |int (i:Int):TyOf K H (.int i) (.type "int")
 |str (x:Str):TyOf K H (.str x) (.type "str")
 |flt (x:UInt64):TyOf K H (.flt x) (.type "float")
 |lst {a:Addr} {xs:List V} (e:H a=some (.lst xs)):TyOf K H (.ref a) (.type "list")
 |frz {a:Addr} {o:Obj} {xs:List V} (e:H a=some (.frz o (.lst xs))):TyOf K H (.ref a) (.type "list")
 |tup {a:Addr} {xs:List V} (e:H a=some (.tup xs)):TyOf K H (.ref a) (.type "tuple")
 |dK {a:Addr} {kvs:List (Key×V)} (e:H a=some (.dK kvs)):TyOf K H (.ref a) (.type "dict")
 |dT {a:Addr} {kvs:List (List Key×V)} (e:H a=some (.dT kvs)):TyOf K H (.ref a) (.type "dict")
 |ins {a C dx:Addr} {fs:List (Str×V)} (e:H a=some (.ins C dx fs)) (cl:Cls K C) (ha:aV K (.ref C) "__class__" = some (some (.builtin "object.__class__")))
   (hn:bT K (.builtin "object.__class__") "__get__" = some (some (.builtin "getset_descriptor.__get__"))) (htk:cD K (.builtin "object.__class__")=some true)
   (hm:bG K C (.type "object")=some true):TyOf K H (.ref a) (.ref C)
end
structure Room(k:Nat)(A:Around):Prop where
 hd:A.handled=none
 dp:A.depth+3*k+5<recursionLimit
 un:A.units+16*k+200<fK
theorem Room.mono{j k:Nat}{A:Around}(r:Room k A)(h:j≤k):Room j A:=⟨r.hd,by have:=r.dp;omega,by have:=r.un;omega⟩
theorem Room.deeper{k:Nat}{A:Around}(r:Room (k+1) A)(env:Env):Room k (A.deeper env):=
 ⟨r.hd,by have:=r.dp;show A.depth+1+3*k+5<_;omega,by have:=r.un;show A.units+3+16*k+200<_;omega⟩
theorem Room.depth{k:Nat}{A:Around}(r:Room k A):A.depth<recursionLimit:=by have:=r.dp;omega
theorem Room.units{k:Nat}{A:Around}(r:Room k A):A.units+64<fK:=by have:=r.un;omega
def tNil:TA:=fun _ H Q=>Q [] H
def tCons(ta:TE)(tr:TA):TA:=fun σ H Q=>ta σ H fun x H1=>tr σ H1 fun xs H2=>Q (x::xs) H2
section
variable{X:Cx}{e:Expr}{es:List Expr}{te:TE}{t:TA}{pos:Pos}
theorem pa_nil:PA X [] tNil:=fun _ _ _ _ H Q I h=>Calls.spliced_nil ⟨[],H,I,.nil,h⟩
theorem z1e(ha:PE X e te)(hr:PA X es t)(hs:starEach (e::es) X.env=(false,eval e X.env)::starEach es X.env:=by rfl):PA X (e::es) (tCons te t):=by
 intro pos pins s σ H Q I h
 rw[hs]
 show wpAny _ _ (spliced ((false,eval e X.env)::fD pos (starEach es X.env))) _ _ s
 refine Calls.spliced_cons (thn (ha pins s σ H _ I h) fun u s1 ⟨x,H1,I1,r1,q1⟩=>?_)
 exact thn (hr pos pins s1 σ H1 _ I1 q1) fun us s2 ⟨xs,H2,I2,r2,q2⟩=>⟨x::xs,H2,I2,.cons r1 r2,q2⟩
def tTup(t:TA):TE:=fun σ H Q=>t σ H fun xs H1=>xs.length≤sizeLine∧∀p,H1 p=none->Q (.ref p) (upd H1 p (.tup xs))
def tLst(t:TA):TE:=fun σ H Q=>t σ H fun xs H1=>xs.length≤sizeLine∧∀p,H1 p=none->Q (.ref p) (upd H1 p (.lst xs))
theorem pe_tup{x1}(h:PA X es t):PE X (.Tuple es x1 pos) (tTup t):=by
 intro pins s σ H Q I hq
 refine wpAny_Tuple_spliced (thn (h pos pins s σ H _ I hq) fun us s1 ⟨xs,H1,I1,r,z,q⟩=>⟨by rw[←r.length];exact z,?_⟩)
 have hf:H1 s1.heap.objs.size=none:=I1.hok.fresh (ar _)
 refine⟨.ref s1.heap.objs.size,upd H1 s1.heap.objs.size (.tup xs),I1.laid (t':=s1.toks) (fun b u e=>Heap.get?_push_of_some _ e) (ar _) ?_,rfl,q _ hf⟩
 exact⟨z,us,r,TupN.new _ _⟩
theorem y6t(h:PA X es t):PE X (.List es pos) (tLst t):=by
 intro pins s σ H Q I hq
 refine wpAny_List_spliced (thn (h pos pins s σ H _ I hq) fun us s1 ⟨xs,H1,I1,r,z,q⟩=>⟨by rw[←r.length];exact z,?_⟩)
 have hf:H1 s1.heap.objs.size=none:=I1.hok.fresh (ar _)
 refine⟨.ref s1.heap.objs.size,upd H1 s1.heap.objs.size (.lst xs),I1.laid (t':=s1.toks) (fun b u e=>Heap.get?_push_of_some _ e) (ar _) ?_,rfl,q _ hf⟩
 exact⟨z,us,0,r,Heap.get?_push_size _ rfl⟩
end
abbrev Sp:=List V->Hp->VK->XK->Prop
abbrev CXT:=List Env->Hp->dw->XK->Value->dw->Prop
structure Env0(P:fw)(w:fx)(K:aa)(mg:Str->Option Value)(base:Heap)(A:Around)(outer:List Env)(s:dw)(H:Hp):Prop where
 frames:A.frames=some outer
 mod:Mod K mg base
 bs:∀b o,base.get? b=some o->s.heap.get? b=some o∧H b=none
 bsz:base.objs.size≤s.heap.objs.size
 funs:s.heap.FunFrames base outer
 frf:∀b∈frs outer,H b=none
 hok:HOk P w H s.heap
 bare:AllBare s.gens
def CE(outer:List Env)(P:fw)(w:fx)(H:Hp)(s:dw)(Q:VK)(u:Value)(s':dw):Prop:=
 ∃v H',s'.os=s.os∧AllBare s'.gens∧Un (frs outer) [] H H' s.heap s'.heap∧HOk P w H' s'.heap∧RelV v u∧Q v H'
def CR(CX:CXT)(outer:List Env)(P:fw)(w:fx)(H:Hp)(s:dw)(Q:VK)(E:XK)(r:Result)(s':dw):Prop:=
 match r with
 |.ok (.ret u)=>CE outer P w H s Q u s'
 |.ok _=>False
 |.error e=>CX outer H s E e s'
structure FnOk(P:fw)(w:fx)(K:aa)(mg:Str->Option Value)(base:Heap)(CX:CXT)(k:Nat)(f:Addr)(fd:fy)(ps:List Str)(sp:Sp):Prop where
 len:∀vs H Q E,sp vs H Q E->vs.length=ps.length
 run:∀(A:Around) (outer:List Env) (s:dw) (H:Hp) (args:Args) (us:List Value) (vs:List V) (Q:VK) (E:XK),Room k A->Env0 P w K mg base A outer s H->BindsTo s fd args (ps.zip us)->Vals vs us->sp vs H Q E →
  codeAny (model P w) A (.call (.ref f) args) (CR CX outer P w H s Q E) s
theorem FnOk.imp{P:fw}{w:fx}{K:aa}{mg:Str->Option Value}{base:Heap}{CX:CXT}{k:Nat}{f:Addr}{fd:fy}{ps:List Str}{sp sp':Sp}(F:FnOk P w K mg base CX k f fd ps sp)
  (h:∀vs H Q E,sp' vs H Q E->sp vs H Q E):FnOk P w K mg base CX k f fd ps sp':=
 ⟨fun vs H Q E q=>F.len vs H Q E (h _ _ _ _ q),fun A outer s H args us vs Q E hr he hb hv hs=>F.run A outer s H args us vs Q E hr he hb hv (h _ _ _ _ hs)⟩
section
variable{X:Cx}{pins:AO}{σ:St}{H:Hp}{s s':dw}
theorem Inv.env0(I:Inv X pins σ H s):Env0 X.prog X.w X.K X.mg X.base X.A X.stack s H:=
 ⟨I.ok.frames,I.ok.mod,I.bs,aI I.ok.bsz I.sz,I.stack,I.stkFree,I.hok,I.bare⟩
theorem Inv.after{Q:VK}{u:Value}(I:Inv X pins σ H s)(h:CE X.stack X.prog X.w H s Q u s'):EP X pins σ Q u s':=by
 obtain⟨v,H',os,bare,un,hok,r,q⟩:=h
 obtain⟨hh,g,d,t,os'⟩:=s'
 obtain rfl:os'=s.os:=os
 exact⟨v,H',I.call (h':=hh) (g':=g) (d':=d) (t':=t) (ch:=[]) un hok bare (fun b z=>absurd z (by simp)),r,q⟩
end
def tCall(sp:Sp)(dvs:List V)(E:XK)(t:TA):TE:=fun σ H Q=>t σ H fun vs H1=>sp (vs++dvs) H1 Q E
def Binds(K:aa)(fd:fy)(ps:List Str)(ds:List Value):Prop:=
 ∀(s:dw) (us:List Value),K.In s.heap->(us++ds).length=ps.length->BindsTo s fd ⟨us,[]⟩ (ps.zip (us++ds))
theorem Binds.all{K:aa}{fd:fy}{ps:List Str}(h:∀us:List Value,us.length=ps.length->bindArgs fd ⟨us,[]⟩=pure (ps.zip us)):Binds K fd ps []:=fun s us _ hl=>by
 rw[aF]at hl ⊢
 exact .of_eq (h us hl)
def y8G(CX:CXT)(X:Cx)(E:XK):Prop:=∀(pins:AO) (σ:St) (H:Hp) (s:dw) (e:Value) (s':dw),Inv X pins σ H s->CX X.stack H s E e s'->X.xe e s'
section
variable{X:Cx}{CX:CXT}{k:Nat}{f C:Addr}{fd:fy}{ps:List Str}{sp:Sp}{dvs:List V}{ds:List Value}{E:XK}{x:Str}{p pos:Pos}{e:Expr}{es:List Expr}{t:TA}
theorem run_fn{pins:AO}{σ:St}{H:Hp}{s:dw}{Q:VK}{us:List Value}{vs:List V}(F:FnOk X.prog X.w X.K X.mg X.base CX k f fd ps sp)(hr:Room k X.A)(hb:Binds X.K fd ps ds)(hd:Vals dvs ds)(hx:y8G CX X E)
  (I:Inv X pins σ H s) (r:Vals vs us) (h:sp (vs++dvs) H Q E):wpAny (model X.prog X.w) X.A (call (.ref f) us) (EP X pins σ Q) X.xe s:=by
 have r2:Vals (vs++dvs) (us++ds):=r.append hd
 have hl:(us++ds).length=ps.length:=by rw[←r2.length];exact F.len _ _ _ _ h
 refine wpAny_call (codeAny_mono (F.run X.A X.stack s H ⟨us,[]⟩ (us++ds) (vs++dvs) Q E hr I.env0 (hb s us I.kIn hl) r2 h) fun r s' hq=>?_)
 cases r with
 |error e=>exact hx pins σ H s e s' I hq
 |ok fl=>
  cases fl with
  |ret u=>exact I.after hq
  |next=>exact False.elim hq
  |brk=>exact False.elim hq
  |cont=>exact False.elim hq
theorem pe_call(F:FnOk X.prog X.w X.K X.mg X.base CX k f fd ps sp)(hr:Room k X.A)(hg:Gl X x)(hm:X.mg x=some (.ref f))(hk:bB X.K (.ref f)=true)(hb:Binds X.K fd ps ds)(hd:Vals dvs ds)(hx:y8G CX X E)
  (ha:PA X (e::es) t) (hdb:(x==("__debug__" : Str))=false:=by decide) (he:starEach (e::es) X.env=(false,eval e X.env)::starEach es X.env:=by rfl) (hpl:(fD pos (starEach es X.env)).any (·.1)=false:=by rfl):
  PE X (.Call (.Name x p) (e::es) [] pos) (tCall sp dvs E t):=by
 intro pins s σ H Q I h
 refine wpAny_Call_Name_kw (z7E I hg hm ?_ hdb)
 refine eS (h₀:=X.base) I.ok.mod.kin hk (thn (ha pos pins s σ H _ I h) fun us s1 ⟨vs,H1,I1,r,q⟩=>⟨I1.kIn,?_⟩) he hpl
 exact run_fn F hr hb hd hx I1 r q
structure Mk(K:aa)(C f:Addr):Prop where
 makes:PySem.W.makesIn K C=true
 init:aV K (.ref C) "__init__" = some (some (.ref f))
 fn:PySem.W.isFn K (.ref f)=true
 kp:bB K (.ref C)=true
end
section
variable{fd:fy}{ps ks:List Str}
structure KBinds(K:aa)(fd:fy)(ps ks:List Str)(g:List Value->List Value->List Value)(gV:List V->List V->List V):Prop where
 to:∀(s:dw) (us ws:List Value),K.In s.heap->(g us ws).length=ps.length->BindsTo s fd ⟨us,ks.zip ws⟩ (ps.zip (g us ws))
 rel:∀{vs:List V} {us:List Value} {zs:List V} {ws:List Value},Vals vs us->Vals zs ws->Vals (gV vs zs) (g us ws)
end
structure FnScope(N P:List Str)(sc:fI):Prop where
 kind:sc.kind = .function
 co:sc.isCoroutine=false
 gen:sc.isGenerator=false
 nd:N.Nodup
 pre:N.take P.length=P
 par:∀x∈P,sc.names.lookup x=some .local∨sc.names.lookup x=some .cell
 nofree:∀y∈sc.names,y.2≠.free
theorem y1U{kindOf:Str->Option NameKind}{x:Str}:∀{binds:List (Str×Value)} {m:Str->Option Value},(∀v,(x,v)∉binds)->bindL kindOf binds m x=m x
 |[],_,_=>rfl
 | (n,v)::r,m,h=>by
  unfold bindL
  rw[y1U fun w hw=>h w (ae _ hw)]
  split
  ·have:x≠n:=by rintro rfl;exact h v ac
   simp[this]
  ·rfl
theorem y1G{kindOf:Str->Option NameKind}{x:Str}:∀{binds:List (Str×Value)} {m:Str->Option Value},(∀v,(x,v)∉binds)->bindC kindOf binds m x=m x
 |[],_,_=>rfl
 | (n,v)::r,m,h=>by
  unfold bindC
  rw[y1G fun w hw=>h w (ae _ hw)]
  split
  ·rfl
  ·have:x≠n:=by rintro rfl;exact h v ac
   simp[this]
theorem y0t{kindOf:Str->Option NameKind}{x:Str}{v:Value}:∀{P:List Str} {vs:List Value} {i:Nat} {m:Str->Option Value},P.Nodup->P[i]? = some x->vs[i]? = some v->kindOf x=some .local →
  bindL kindOf (P.zip vs) m x=some v
 |[],_,_,_,_,h,_,_=>by simp at h
 |_::_,[],_,_,_,_,h,_=>by simp at h
 |p::P,w::vs,0,m,nd,h1,h2,hk=>by
  simp at h1 h2;subst h1;subst h2
  show bindL kindOf ((p,w)::P.zip vs) m p=_
  unfold bindL
  rw[y1U fun v hv=>(aA.mp nd).1 (dX hv).1,if_pos hk]
  simp
 |p::P,w::vs,i+1,m,nd,h1,h2,hk=>by
  show bindL kindOf ((p,w)::P.zip vs) m x=_
  unfold bindL
  exact y0t (i:=i) (aA.mp nd).2 (by simpa using h1) (by simpa using h2) hk
theorem y0w{kindOf:Str->Option NameKind}{x:Str}{v:Value}:∀{P:List Str} {vs:List Value} {i:Nat} {m:Str->Option Value},P.Nodup->P[i]? = some x->vs[i]? = some v->kindOf x≠some .local →
  bindC kindOf (P.zip vs) m x=some v
 |[],_,_,_,_,h,_,_=>by simp at h
 |_::_,[],_,_,_,_,h,_=>by simp at h
 |p::P,w::vs,0,m,nd,h1,h2,hk=>by
  simp at h1 h2;subst h1;subst h2
  show bindC kindOf ((p,w)::P.zip vs) m p=_
  unfold bindC
  rw[y1G fun v hv=>(aA.mp nd).1 (dX hv).1,if_neg hk]
  simp
 |p::P,w::vs,i+1,m,nd,h1,h2,hk=>by
  show bindC kindOf ((p,w)::P.zip vs) m x=_
  unfold bindC
  exact y0w (i:=i) (aA.mp nd).2 (by simpa using h1) (by simpa using h2) hk
def z4O(N:List Str)(vs:List V):St:=vs.map some++ad (N.length - vs.length) none
def z8p(CX:CXT)(P:fw)(w:fx)(K:aa)(mg:Str->Option Value)(base:Heap)(N:List Str)(qual:Str)(scope:fI)(f:Addr)(cd:Value)(A:Around)(outer:List Env)(s:dw)(H:Hp)(E:XK):Cx where
 prog:=P
 w:=w
 K:=K
 mg:=mg
 base:=base
 A:=A.deeper (envOfC qual scope s.heap.objs.size f cd)
 N:=N
 s₀:=s
 H₀:=H
 env:=envOfC qual scope s.heap.objs.size f cd
 outer:=outer
 stack:=envOfC qual scope s.heap.objs.size f cd::outer
 ex:=[]
 calm:=true
 fn:=fun _=>true
 pn:=[]
 xe:=fun e s'=>wpAny (model P w) (A.deeper (envOfC qual scope s.heap.objs.size f cd)) (leaving (envOfC qual scope s.heap.objs.size f cd) e) (fun _ s''=>CX outer H s E e s'') (fun e' s''=>CX outer H s E e' s'') s'
theorem y4H{sc:fI}{n:Nat}{x:Str}(h:sc.names.lookup x=some .cell):∃c,(cellsFrom n sc.names []).lookup x=some c:=by
 have q:=eD sc.names n [] (.inl h)
 exact cL.mp q
theorem y6p{CX:CXT}{P:fw}{w:fx}{K:aa}{mg:Str->Option Value}{base:Heap}{N ps:List Str}{qual:Str}{scope:fI}{f:Addr}{cd:Value}{A:Around}{outer:List Env}{s s1:dw}{H:Hp}{E:XK}{us:List Value}{vs:List V}
  (S:FnScope N ps scope) (hd:A.handled=none) (e0:Env0 P w K mg base A outer s H) (hl:vs.length=ps.length) (r:Vals vs us)
  (x:InCallC s s.heap.objs.size (bindL (envOfC qual scope s.heap.objs.size f cd).kindOf (ps.zip us) fun _=>none) (cellsFrom (s.heap.objs.size+1) scope.names []) (bindC (envOfC qual scope s.heap.objs.size f cd).kindOf (ps.zip us) fun _=>none) s1):
  Inv (z8p CX P w K mg base N qual scope f cd A outer s H E) [] (z4O N vs) H s1:=by
 have hpl:ps.length≤N.length:=by have:=congrArg List.length S.pre;rw[bZ]at this;omega
 obtain⟨h1,tk,rfl,hk⟩:=x.done
 have noA:∀b:Addr,b∉(z8p CX P w K mg base N qual scope f cd A outer s H E).ex:=fun b z=>absurd (show b∈([]:List Addr) from z) (by simp)
 refine⟨⟨e0.mod,S.kind,rfl,rfl,ar _,fun y z c h1 h2=>?_,fun y hy=>?_,fun y c _ h=>?_,fun _=>hd,Around.frames_deeper e0.frames,.inr ⟨rfl,rfl⟩,fun b z=>absurd z (noA b),e0.bs,e0.bsz,fun b _ _=>noA b,fun b z=>absurd z (noA b),e0.funs,e0.frf⟩,
  rfl,e0.bare,Un.kept hk,⟨_,x.toInCall.ns,fun i y v h1 h2 h3=>?_⟩,fun y c h=>⟨_,x.cell y c h⟩,e0.hok.fresh (ar _),fun y c h=>?_,fun p hp=>absurd (show p∈([]:AO) from hp) (by simp),e0.hok.kept hk,?_⟩
 ·exact name_of_addr x.apart (PySem.mem_of_lookup h1) (PySem.mem_of_lookup h2)
 ·have hy:scope.names.lookup y=some .cell∨scope.names.lookup y=some .free:=hy
  rcases hy with hy | hy
  ·exact y4H hy
  ·exact absurd rfl (S.nofree _ (PySem.mem_of_lookup hy))
 ·exact cq (x.above y c (PySem.mem_of_lookup h))
 ·have hi:i<vs.length:=by
   unfold z4O at h2
   by_cases hi:i<vs.length
   ·exact hi
   ·rw[bh (by simpa using hi)]at h2
    rw[bq]at h2
    split at h2 <;> cases h2
  have ha:vs[i]? = some v:=by
   unfold z4O at h2
   rw[aZ (by simpa using hi),aG]at h2
   cases e:vs[i]? with
   |none=>rw[e]at h2;cases h2
   |some a=>rw[e]at h2;cases h2;rfl
  obtain⟨u,hu,rv⟩:=r.get ha
  have hp:ps[i]? = some y:=by
   rw[←S.pre,List.getElem?_take_of_lt ⋯];exact h1
  have ndP:ps.Nodup:=by rw[←S.pre];exact S.nd.sublist (List.take_sublist _ _)
  refine⟨u,rv,?_⟩
  rcases S.par y (de hp)with k | k
  ·exact .inl ⟨k,y0t ndP hp hu k⟩
  ·obtain⟨c,e⟩:=y4H (n:=s.heap.objs.size+1) k
   refine .inr ⟨.inl k,c,e,?_⟩
   have q:=x.cell y c e
   rw[y0w ndP hp hu (by show scope.names.lookup y≠_;rw[k];decide)]at q
   exact q
 ·exact e0.hok.fresh (cq (x.above y c (PySem.mem_of_lookup h)))
 ·unfold z4O
  show _=N.length
  rw[aB,ao,eU]
  omega
theorem fn_of{CX:CXT}{P:fw}{w:fx}{K:aa}{mg:Str->Option Value}{base:Heap}{k:Nat}{f:Addr}{name qual:Str}{params:Arguments}{body:List Stmt}{scope:fI}{dV kV doc pm cdv ct oc:Value}{an od:Option Addr}
  {osl:Array (Option Value)} {N ps:List Str} {sp:Sp} (lk:K.lookup f=some ⟨oc,od,.func (bu name qual params body scope dV kV doc pm an cdv ct),osl⟩) (hcd:cV K cdv qual=true) (S:FnScope N ps scope)
  (len:∀vs H Q E,sp vs H Q E->vs.length=ps.length)
  (hbody:∀(A:Around) (outer:List Env) (s:dw) (H:Hp) (vs:List V) (Q:VK) (E:XK),Room k (A.deeper (envOfC qual scope s.heap.objs.size f cdv))->sp vs H Q E →
   ∃t,PSs (z8p CX P w K mg base N qual scope f cdv A outer s H E) body t∧t { nx:=fun _ H'=>Q .non H',rt:=Q } (z4O N vs) H):
  FnOk P w K mg base CX (k+1) f (bu name qual params body scope dV kV doc pm an cdv ct) ps sp:=by
 refine⟨len,fun A outer s H args us vs Q E hr e0 hb r hsp=>?_⟩
 have hl:=len _ _ _ _ hsp
 have KX:K.In s.heap:=e0.mod.kin.keeps fun b o e=>(e0.bs b o e).1
 have lim:s.heap.NoLimit:=e0.mod.nolimit.keeps fun b o e=>(e0.bs b o e).1
 have hkind:∀y∈ps.zip us,scope.names.lookup y.1=some .local∨(scope.names.lookup y.1=some .cell∧((cellsFrom (s.heap.objs.size+1) scope.names []).lookup y.1).isSome=true):=fun⟨n,v⟩ hy=>by
  rcases S.par n (dX hy).1 with q | q
  ·exact .inl q
  ·exact .inr ⟨q,eD _ _ _ (.inl q)⟩
 refine codeAny_call_function hr.depth (KX _ _ lk) rfl S.co S.gen rfl (PySem.W.codeRec_of KX hcd) (hb _ _ _ _ ?_)
 refine wpAny_newFunctionEnv_cells S.kind hkind fun env he s1 x=>?_
 subst he
 refine⟨lim.keeps x.toInCall.keep,codeAny_func ?_⟩
 obtain⟨t,ht,hq⟩:=hbody A outer s H vs Q E (hr.deeper _) hsp
 have I:Inv (z8p CX P w K mg base N qual scope f cdv A outer s H E) [] (z4O N vs) H s1:=y6p S hr.hd e0 hl r x
 refine wpAny_mono (ht [] s1 (z4O N vs) H _ I hq) (fun fl s' hs=>?_) fun e s' hs=>hs
 have fin:∀{σ':St} {H':Hp} {v:V} {u:Value},Inv (z8p CX P w K mg base N qual scope f cdv A outer s H E) [] σ' H' s'->RelV v u->Q v H'->CE outer P w H s Q u s':=
  fun {σ' H' v u} J rv q=>⟨v,H',J.os,J.bare,J.base,J.hok,rv,q⟩
 cases fl with
 |ret u=>
  obtain⟨v,σ',H',J,rv,q⟩:=hs
  exact fin J rv q
 |next=>
  obtain⟨σ',H',J,q⟩:=hs
  exact fin (v:=V.non) (u:=Value.none) J rfl q
 |brk=>
  obtain⟨_,_,_,q⟩:=hs
  exact False.elim q
 |cont=>
  obtain⟨_,_,_,q⟩:=hs
  exact False.elim q
section
variable{X:Cx}{x:Str}{p pos:Pos}{e:Expr}{es:List Expr}{t:TA}{id T:String}{r:List V->Hp->VK->Prop}
def tCB(r:List V->Hp->VK->Prop)(t:TA):TE:=fun σ H Q=>t σ H fun vs H1=>r vs H1 Q
theorem z5W(hc:z5r X (.builtin id) r)(hg:Gl X x)(hm:X.mg x=none)(hv:fE x=some (.builtin id))(ha:PA X (e::es) t)(hn:x ≠ "__name__" := by decide)(hdb:(x==("__debug__" : Str))=false:=by decide)
  (he:starEach (e::es) X.env=(false,eval e X.env)::starEach es X.env:=by rfl) (hpl:(fD pos (starEach es X.env)).any (·.1)=false:=by rfl):PE X (.Call (.Name x p) (e::es) [] pos) (tCB r t):=by
 intro pins s σ H Q I h
 refine wpAny_Call_Name_kw (z3Y I hg hm hv ?_ hn hdb)
 exact PyProof.Rows.callWith_builtin1 (thn (ha pos pins s σ H _ I h) fun us s1 ⟨vs,H1,I1,r1,q1⟩=>hc pins s1 σ H1 vs us Q I1 r1 q1) he hpl
theorem z7T(hc:z5r X (.type T) r)(hg:Gl X x)(hm:X.mg x=none)(hv:fE x=some (.type T))(ha:PA X (e::es) t)(hn:x ≠ "__name__" := by decide)(hdb:(x==("__debug__" : Str))=false:=by decide)
  (he:starEach (e::es) X.env=(false,eval e X.env)::starEach es X.env:=by rfl) (hpl:(fD pos (starEach es X.env)).any (·.1)=false:=by rfl):PE X (.Call (.Name x p) (e::es) [] pos) (tCB r t):=by
 intro pins s σ H Q I h
 refine wpAny_Call_Name_kw (z3Y I hg hm hv ?_ hn hdb)
 exact PyProof.Rows.callWith_type1 (thn (ha pos pins s σ H _ I h) fun us s1 ⟨vs,H1,I1,r1,q1⟩=>hc pins s1 σ H1 vs us Q I1 r1 q1) he hpl
end
end L2
namespace HT
open PySem PyProof.Rows
section
open PySem.SeqAt
open PySem.AutoSeq1 (wpAny_loadPart')
open PySem.MeetsSeq PySem.MeetsSeq2 PySem.MeetsSeq3
end
section
def sIx(n d:Nat):Option Int->Nat
 |none=>d
 |some v=>if v<0 then(v+(n:Int)).toNat else min v.toNat n
end
end HT
namespace L2
open PySem PySem.Spec PyProof.Rows
abbrev TO:=St->Hp->(Option Int->Hp->Prop)->Prop
def PO(X:Cx)(e:Option Expr)(t:TO):Prop:=
 ∀(pins:AO) (s:dw) (σ:St) (H:Hp) (Q:Option Int->Hp->Prop),Inv X pins σ H s->t σ H Q →
  wpAny (model X.prog X.w) X.A (evalPart e X.env) (fun u s'=>∃o H',Inv X pins σ H' s'∧IsPart u o∧Q o H') X.xe s
def tNoPart:TO:=fun _ H Q=>Q none H
def tPart(t:TE):TO:=fun σ H Q=>t σ H fun x H1=>∃i,x = .int i∧Q (some i) H1
theorem y5K{ns:List Int}:∀{us:List Value},Vals (ns.map V.int) us->fJ us ns:=by
 induction ns with
 |nil=>intro us r;rw[dJ]at r;cases r;exact .nil
 |cons n ns ih=>
  intro us r
  rw[aH]at r
  cases r with
  |cons r1 r2=>
   obtain⟨t,e⟩:=r1
   subst e
   exact .cons n t (ih r2)
section
variable{X:Cx}{e:Expr}{te:TE}{lo hi:Option Expr}{tl th:TO}{pos p2:Pos}
theorem po_none:PO X none tNoPart:=by
 intro pins s σ H Q I h
 rw[evalPart_none]
 exact wpAny_pure ⟨none,H,I,.none,h⟩
theorem po_some(h:PE X e te):PO X (some e) (tPart te):=by
 intro pins s σ H Q I hw
 rw[evalPart_some]
 refine thn (h pins s σ H _ I hw) fun u s1 ⟨x,H1,I1,r1,q1⟩=>?_
 obtain⟨i,rfl,q⟩:=q1
 obtain⟨t,rfl⟩:=r1
 exact⟨some i,H1,I1,.int i t,q⟩
def SlR(X:Cx)(r:V->Option Int->Option Int->Hp->VK->Prop):Prop:=
 ∀(pins:AO) (s:dw) (σ:St) (H:Hp) (x:V) (v vl vu:Value) (lo hi:Option Int) (sl:Addr) (Q:VK),Inv X pins σ H s->RelV x v->s.heap.IsSliceOf sl vl vu .none->IsPart vl lo->IsPart vu hi->r x lo hi H Q →
  ∃T id,typeLookup (.type T) "__getitem__" = pure (some (.builtin id))∧s.TypeIs v T∧wpAny (model X.prog X.w) X.A (getItem v (.ref sl)) (EP X pins σ Q) X.xe s
def tSl(r:V->Option Int->Option Int->Hp->VK->Prop)(te:TE)(tl th:TO):TE:=fun σ H Q=>te σ H fun x H1=>tl σ H1 fun l H2=>th σ H2 fun u H3=>r x l u H3 Q
theorem x2m{r:V->Option Int->Option Int->Hp->VK->Prop}(hr:SlR X r)(he:PE X e te)(hl:PO X lo tl)(hu:PO X hi th):PE X (.Subscript e (.Slice lo hi none p2) pos) (tSl r te tl th):=by
 intro pins s σ H Q I h
 refine Subscript_ (thn (he pins s σ H _ I h) fun v s1 ⟨x,H1,I1,r1,q1⟩=>?_)
 refine wpAny_Slice (thn (hl pins s1 σ H1 _ I1 q1) fun vl s2 ⟨l,H2,I2,pl,q2⟩=>thn (hu pins s2 σ H2 _ I2 q2) fun vu s3 ⟨u,H3,I3,pu,q3⟩=>?_)
 rw[evalPart_none]
 refine wpAny_pure ?_
 have I4:Inv X pins σ H3 { s3 with heap:=s3.heap.push { cls:=.type "slice",data:=.fields #[vl,vu,.none] } }:=I3.kept (t':=s3.toks) fun b ob q=>Heap.get?_push_of_some _ q
 obtain⟨T,id,hT,ht,hg⟩:=hr pins { s3 with heap:=s3.heap.push { cls:=.type "slice",data:=.fields #[vl,vu,.none] } } σ H3 x v vl vu l u s3.heap.objs.size Q I4 r1 (Heap.IsSliceOf.new ..) pl pu q3
 show wpAny (model X.prog X.w) X.A (subscriptTail e (.Slice lo hi none p2) v (.ref s3.heap.objs.size)) (EP X pins σ Q) X.xe { s3 with heap:=s3.heap.push { cls:=.type "slice",data:=.fields #[vl,vu,.none] } }
 exact tail_any (ops:=[.ref s3.heap.objs.size,v]) ht hT hg (by with_unfolding_all rfl)
def cutV(xs:List V)(lo hi:Option Int):List V:=(xs.drop (HT.sIx xs.length 0 lo)).take (HT.sIx xs.length xs.length hi - HT.sIx xs.length 0 lo)
theorem y2M(xs:List V)(lo hi:Option Int):(cutV xs lo hi).length≤xs.length:=by
 unfold cutV
 rw[bZ,dR]
 omega
end
def ixN(n:Nat)(i:Int):Option Nat:=if 0≤i then(if i<n then some i.toNat else none)else if -(n:Int)≤i then some (i+n).toNat else none
def atI{α:Type}(xs:List α)(i:Int):Option α:=(ixN xs.length i).bind fun j=>xs[j]?
theorem y8L{n:Nat}{i:Int}{j:Nat}(h:ixN n i=some j):seqIndex? i n=some j∧j<n∧-(n:Int)≤i∧i<n:=by
 unfold ixN at h
 by_cases h0:0≤i
 ·rw[if_pos h0]at h
  by_cases h1:i<n
  ·rw[if_pos h1]at h
   have e:i.toNat=j:=Option.some.inj h
   exact⟨by rw[seqIndex_of h0 h1,e],by omega,by omega,h1⟩
  ·rw[if_neg h1]at h;cases h
 ·rw[if_neg h0]at h
  by_cases h1:-(n:Int)≤i
  ·rw[if_pos h1]at h
   have e:(i+n).toNat=j:=Option.some.inj h
   exact⟨by rw[seqIndex_neg ⋯ h1,e],by omega,h1,by omega⟩
  ·rw[if_neg h1]at h;cases h
theorem y3e{α:Type}{xs:List α}{i:Int}{v:α}(h:atI xs i=some v):∃j,seqIndex? i xs.length=some j∧xs[j]? = some v∧j<xs.length∧-(xs.length:Int)≤i∧i<xs.length:=by
 unfold atI at h
 cases e:ixN xs.length i with
 |none=>rw[e]at h;cases h
 |some j=>
  rw[e]at h
  obtain⟨h1,h2,h3,h4⟩:=y8L e
  exact⟨j,h1,h,h2,h3,h4⟩
theorem z2q{α:Type}{xs:List α}{j:Nat}{v:α}(h:xs[j]? = some v):atI xs (j:Int)=some v:=by
 have hj:j<xs.length:=(aL.mp h).1
 have e:ixN xs.length (j:Int)=some j:=by
  unfold ixN
  rw[if_pos ⋯,if_pos ⋯];simp
 unfold atI;rw[e];exact h
def z7V(b:Expr):Prop:=∀o i,subscripted b false o i=operate [o,i] (getItem o i)
def IxR(X:Cx)(r:R2):Prop:=
 ∀(value slice:Expr) (pins:AO) (s:dw) (σ:St) (H:Hp) (x y:V) (v u:Value) (Q:VK),Inv X pins σ H s->RelV x v->RelV y u->r x y H Q →
  subscripted slice false v u=operate [v,u] (getItem v u)->wpAny (model X.prog X.w) X.A (subscriptTail value slice v u) (EP X pins σ Q) X.xe s
def MtR(X:Cx)(id:String)(r:V->List V->Hp->VK->Prop):Prop:=
 ∀(pins:AO) (s:dw) (σ:St) (H:Hp) (x:V) (xs:List V) (v:Value) (us:List Value) (Q:VK),Inv X pins σ H s->RelV x v->Vals xs us->r x xs H Q →
  wpAny (model X.prog X.w) X.A (call (.builtin id) (v::us)) (EP X pins σ Q) X.xe s
section
variable{X:Cx}{a b:Expr}{ta tb:TE}{pos:Pos}
theorem IxR.or{r r':R2}(h:IxR X r)(h':IxR X r'):IxR X (fun x y H Q=>r x y H Q∨r' x y H Q):=by
 intro value slice pins s σ H x y v u Q I rx ry q hs
 rcases q with q | q
 ·exact h value slice pins s σ H x y v u Q I rx ry q hs
 ·exact h' value slice pins s σ H x y v u Q I rx ry q hs
theorem x2g{r:R2}(hr:IxR X r)(ha:PE X a ta)(hb:PE X b tb)(hs:z7V b):PE X (.Subscript a b pos) (tOp r ta tb):=by
 intro pins s σ H Q I h
 exact Subscript_ (binT ha hb I h fun v u s2 x y H2 I2 rx ry q=>hr a b pins s2 σ H2 x y v u Q I2 rx ry q (hs _ _))
def rIxL(K:aa):R2:=fun x y H Q=>∃p xs i v,x = .ref p∧y = .int i∧SqL K H p xs∧atI xs i=some v∧Q v H
def rIxT(K:aa):R2:=fun x y H Q=>∃p xs i v,x = .ref p∧y = .int i∧SqT K H p xs∧atI xs i=some v∧Q v H
def rIxS:R2:=fun x y H Q=>∃z i c,x = .str z∧y = .int i∧z.length≤sizeLine∧atI z.cps.toList i=some c∧Q (.str ⟨#[c]⟩) H
theorem ix_list:IxR X (rIxL X.K):=by
 intro value slice pins s σ H x y v u Q I rx ry h hs
 obtain⟨p,xs,i,z,rfl,rfl,hq,he,q⟩:=h
 cases rx
 obtain⟨t,rfl⟩:=ry
 obtain⟨its,r,pl,hz⟩:=I.list hq
 obtain⟨j,h1,h2,h3,h4,h5⟩:=y3e he
 obtain⟨w,ew,rw'⟩:=r.get h2
 have hl:=r.length
 have hn:=z8P
 have fin:EP X pins σ Q w s:=⟨z,H,I,rw',q⟩
 by_cases h0:0≤i
 ·have hj:i.toNat=j:=by
   rw[seqIndex_of h0 h5]at h1
   exact Option.some.inj h1
  exact item_listR pl.isList h0 ⋯ (by rw[hj];simpa using ew) fin hs
 ·have hj:(i+(its.toArray.size:Int)).toNat=j:=by
   rw[seqIndex_neg ⋯ h4]at h1
   rw[ay,←hl]
   exact Option.some.inj h1
  exact subscriptTail_builtinR (x:=w) pl.isList.typeIs slot_list_getitem.lookup
   (wpAny_getItem_list_neg (Q:=fun r s'=>r=w∧EP X pins σ Q r s') pl.isList ⋯ (by rw[ay] <;> omega) ⋯ (by rw[hj];simpa using ew) ⟨rfl,fin⟩) hs
theorem ix_tup:IxR X (rIxT X.K):=by
 intro value slice pins s σ H x y v u Q I rx ry h hs
 obtain⟨p,xs,i,z,rfl,rfl,hq,he,q⟩:=h
 cases rx
 obtain⟨t,rfl⟩:=ry
 obtain⟨its,r,pl,hz⟩:=I.tuple hq
 obtain⟨j,h1,h2,h3,h4,h5⟩:=y3e he
 obtain⟨w,ew,rw'⟩:=r.get h2
 have hl:=r.length
 have hn:=z8P
 have fin:EP X pins σ Q w s:=⟨z,H,I,rw',q⟩
 exact subscriptTail_builtinR (x:=w) pl.typeIs slot_tuple_getitem.lookup
  (getItem_tuple (j:=j) (Q:=fun r s'=>r=w∧EP X pins σ Q r s') pl ⋯ ⋯ (by rw[ay,←hl];exact h1) (by simpa using ew) ⟨rfl,fin⟩) hs
theorem ix_str:IxR X rIxS:=by
 intro value slice pins s σ H x y v u Q I rx ry h hs
 obtain⟨z,i,c,rfl,rfl,hz,he,q⟩:=h
 obtain⟨t,rfl⟩:=rx
 obtain⟨t',rfl⟩:=ry
 obtain⟨j,h1,h2,h3,h4,h5⟩:=y3e he
 have hl:z.cps.toList.length=z.length:=by simp[Str.length]
 rw[hl]at h1 h4 h5
 have hn:=z8P
 exact tail_any (typeIs_str s z t) slot_str_getitem.lookup (getItem_str (c:=c) (by
  have e1:decide (i < -(2 ^ 63:Int))=false:=decide_eq_false ⋯
  have e2:decide (i ≥ 2 ^ 63)=false:=decide_eq_false ⋯
  rw[e1,e2,eK]) (by rw[h1];simpa using h2) ⟨.str ⟨#[c]⟩,H,I.tok _,⟨_,rfl⟩,q⟩) hs
def rIx(K:aa):R2:=fun x y H Q=>rIxL K x y H Q∨rIxT K x y H Q∨rIxS x y H Q
theorem x3i:IxR X (rIx X.K):=ix_list.or (ix_tup.or ix_str)
theorem y4Y(its:List Value)(n j:Nat)(u:Value):Obj.mapSeq (·.setIfInBounds j u) { cls:=.type "list",data:=.seq its.toArray n } = { cls:=.type "list",data:=.seq (its.set j u).toArray n }:=by
 simp[Obj.mapSeq]
theorem Inv.lst{pins:AO}{σ:St}{H:Hp}{s:dw}{p:Addr}{xs:List V}(I:Inv X pins σ H s)(h:H p=some (.lst xs)):
  ∃(its:List Value) (n:Nat),Vals xs its∧s.heap.get? p=some { cls:=.type "list",data:=.seq its.toArray n }∧xs.length≤sizeLine:=by
 obtain⟨z,its,n,r,e⟩:=I.hok p _ h
 exact⟨its,n,r,e,z⟩
theorem Inv.lstUpd{pins:AO}{σ:St}{H:Hp}{s:dw}{p:Addr}{xs ys:List V}{its its':List Value}{n n':Nat}{f:Obj->Obj}(I:Inv X pins σ H s)(h:H p=some (.lst xs))
  (ho:s.heap.get? p=some { cls:=.type "list",data:=.seq its.toArray n }) (hf:f { cls:=.type "list",data:=.seq its.toArray n } = { cls:=.type "list",data:=.seq its'.toArray n' }) (r:Vals ys its') (hz:ys.length≤sizeLine) (t:Nat):
  Inv X pins σ (upd H p (.lst ys)) { s with heap:=s.heap.update p f,toks:=t }:=by
 have e:(s.heap.update p f).get? p=some { cls:=.type "list",data:=.seq its'.toArray n' }:=by
  rw[Heap.get?_update_self f ho (by rw[hf] <;> rfl),hf]
 refine I.write (x:=p) (e:=p) (by rw[h];trivial) (.inl rfl) (fun b u hb q=>(Heap.get?_update_other _ _ (Ne.symm hb)).trans q) ⟨_,e⟩ ?_
 exact⟨hz,its',n',r,e⟩
def rSetL:V->V->V->Hp->(Hp->Prop)->Prop:=fun o i v H Q=>∃p xs k j,o = .ref p∧i = .int k∧H p=some (.lst xs)∧ixN xs.length k=some j∧Q (upd H p (.lst (xs.set j v)))
theorem z9T:PSet X rSetL:=by
 intro pins s σ H o i v ov iv u Q I ro ri rv h
 obtain⟨p,xs,k,j,rfl,rfl,hp,hj,q⟩:=h
 cases ro
 obtain⟨t,rfl⟩:=ri
 obtain⟨its,n,r,ho,hz⟩:=I.lst hp
 obtain⟨h1,h2,h3,h4⟩:=y8L hj
 have hl:=r.length
 have hn:=z8P
 have I':Inv X pins σ (upd H p (.lst (xs.set j v))) { s with heap:=s.heap.update p (Obj.mapSeq (·.setIfInBounds j u)) }:=
  I.lstUpd hp ho (y4Y its n j u) (r.set rv j) (by rw[cY];exact hz) s.toks
 by_cases h0:0≤k
 ·have hk:k.toNat=j:=by
   rw[seqIndex_of h0 h4]at h1
   exact Option.some.inj h1
  exact PySem.W.ki_setAt ho h0 ⋯ (by rw[ay,←hl];exact h4) (by rw[hk];exact⟨_,I',q⟩)
 ·have hk:(k+(its.toArray.size:Int)).toNat=j:=by
   rw[seqIndex_neg ⋯ h3]at h1
   rw[ay,←hl]
   exact Option.some.inj h1
  exact PySem.W.ki_setBack ho ⋯ (by rw[ay,←hl];exact h3) ⋯ (by rw[hk];exact⟨_,I',q⟩)
theorem y1D(lo hi:Option Int)(n:Nat):(sliceBounds lo hi none n).1=((HT.sIx n 0 lo:Nat):Int)∧(sliceBounds lo hi none n).2.1=((HT.sIx n n hi:Nat):Int)∧(sliceBounds lo hi none n).2.2=1:=by
 refine⟨?_,?_,rfl⟩
 ·cases lo with
  |none=>simp[sliceBounds,HT.sIx]
  |some i=>
   simp only[sliceBounds,HT.sIx,fm,show(1:Int)>0 by decide,if_true]
   by_cases h:i<0
   ·simp only[h,if_true] <;> omega
   ·simp only[h,if_false] <;> omega
 ·cases hi with
  |none=>simp[sliceBounds,HT.sIx]
  |some i=>
   simp only[sliceBounds,HT.sIx,fm,show(1:Int)>0 by decide,if_true]
   by_cases h:i<0
   ·simp only[h,if_true] <;> omega
   ·simp only[h,if_false] <;> omega
theorem y0b(its:List Value)(lo hi:Option Int):slicePick its.toArray lo hi none=((its.drop (HT.sIx its.length 0 lo)).take (HT.sIx its.length its.length hi - HT.sIx its.length 0 lo)).toArray:=by
 obtain⟨h1,h2,h3⟩:=y1D lo hi its.toArray.size
 unfold slicePick
 rw[h1,h2,h3]
 simp only[sliceRange_one,pick_run,ay] <;> rfl
def rSlL(K:aa):V->Option Int->Option Int->Hp->VK->Prop:=fun x lo hi H Q=>∃a xs,x = .ref a∧SqL K H a xs∧∀p,H p=none->Q (.ref p) (upd H p (.lst (cutV xs lo hi)))
theorem sl_list:SlR X (rSlL X.K):=by
 intro pins s σ H x v vl vu lo hi sl Q I rx hs pl pu h
 obtain⟨a,xs,rfl,hx,q⟩:=h
 cases rx
 obtain⟨its,r,ht,hz⟩:=I.list hx
 have hlen:=r.length
 refine⟨"list",_,slot_list_getitem.lookup,ht.isList.typeIs,?_⟩
 refine wpAny_getItem_list_slice ht.isList hs pl pu .none (by simp) ?_ (by rw[ay] <;> omega)
 rw[y0b,←hlen]
 refine⟨.ref s.heap.objs.size,_,I.laid (t':=s.toks) (o:=.lst (cutV xs lo hi)) (fun b ob q=>Heap.get?_push_of_some _ q) (ar _) ?_,rfl,q _ (I.hok.fresh (ar _))⟩
 exact⟨aI (y2M xs lo hi) hz,_,0,(r.drop (HT.sIx xs.length 0 lo)).take (HT.sIx xs.length xs.length hi - HT.sIx xs.length 0 lo),Heap.get?_push_size _ rfl⟩
theorem y1n:z5r X (.type "list") (fun xs H Q=>∃p ys,xs=[.ref p]∧(SqL X.K H p ys∨SqT X.K H p ys)∧∀l,H l=none->Q (.ref l) (upd H l (.lst ys))):=by
 intro pins s σ H xs us Q I r h
 obtain⟨p,ys,rfl,hq,q⟩:=h
 obtain⟨u,rfl,rx⟩:=y0a r
 cases rx
 have fin:∀(its:List Value),Vals ys its->ys.length≤sizeLine->∀(h':Heap) (c':Nat),(∀b o',s.heap.get? b=some o'->h'.get? b=some o') →
   h'.get? s.heap.objs.size=some { cls:=.type "list",dict:=none,data:=.seq its.toArray c',slots:=#[] }->EP X pins σ Q (.ref s.heap.objs.size) { s with heap:=h' }:=fun its r' hz h' c' kp e=>
  ⟨.ref s.heap.objs.size,_,I.laid (t':=s.toks) kp (ar _) (show ObjOk X.prog X.w _ h' _ (.lst ys) from⟨hz,its,c',r',e⟩),rfl,q _ (I.hok.fresh (ar _))⟩
 rcases hq with hq | hq
 ·obtain⟨its,r',pl,hz⟩:=I.list hq
  have hlen:=r'.length
  obtain⟨o,ho,hc,n,hd⟩:=pl.isList
  exact call_list_seq p (.inl rfl) ho hc hd (fun h' c' kp e=>fin its r' hz h' c' kp e) (by simp only[ay] <;> omega)
 ·obtain⟨its,r',pl,hz⟩:=I.tuple hq
  have hlen:=r'.length
  obtain⟨o,ho,hc,n,hd⟩:=pl
  exact call_list_seq p (.inr rfl) ho hc hd (fun h' c' kp e=>fin its r' hz h' c' kp e) (by simp only[ay] <;> omega)
def tyV(K:aa)(T:String)(x:V)(H:Hp):Prop:=match x with
 |.str _=>T = "str"
 |.int _=>T = "int"
 |.ref p=>(T = "list" ∧ ∃xs,SqL K H p xs)∨(T = "tuple" ∧ ∃o,K.lookup p=some o∧o.cls = .type "tuple" ∧ o.dict=none) ∨
   (T = "dict" ∧ ((∃kvs,H p=some (.dK kvs))∨∃kvs,H p=some (.dT kvs)))∨(T = "set" ∧ ∃S n,H p=some (.set S n))
 |_=>False
theorem tyV_is{pins:AO}{σ:St}{H:Hp}{s:dw}{T:String}{x:V}{v:Value}(I:Inv X pins σ H s)(r:RelV x v)(ty:tyV X.K T x H):
  s.TypeIs v T∧∀a,v = .ref a->∃ob,s.heap.get? a=some ob∧ob.dict=none:=by
 cases x with
 |str z=>
  obtain⟨t,rfl⟩:=r
  cases (show T = "str" from ty)
  exact⟨typeIs_str s z t,fun _ e=>nomatch e⟩
 |int i=>
  obtain⟨t,rfl⟩:=r
  cases (show T = "int" from ty)
  exact⟨typeIs_int s i t,fun _ e=>nomatch e⟩
 |ref p=>
  cases r
  rcases ty with⟨rfl,xs,hq⟩ | ⟨rfl,o,hk,hc,hd⟩ | ⟨rfl,hk⟩ | ⟨rfl,S,n,hk⟩
  ·obtain⟨its,_,pl,_⟩:=I.list hq
   refine⟨pl.isList.typeIs,fun a e=>?_⟩
   cases e
   obtain⟨o,n,e,c,hd,_⟩:=pl
   exact⟨o,e,hd⟩
  ·refine⟨⟨o,I.kIn p o hk,hc⟩,fun a e=>?_⟩
   cases e
   exact⟨o,I.kIn _ o hk,hd⟩
  ·have z:∃o,s.heap.get? p=some o∧o.ExactDict:=by
    rcases hk with⟨kvs,hk⟩ | ⟨kvs,hk⟩
    ·obtain⟨_,_,_,_,o,_,_,e,ex,_⟩:=I.hok p _ hk
     exact⟨o,e,ex⟩
    ·obtain⟨_,_,_,_,o,_,_,e,ex,_⟩:=I.hok p _ hk
     exact⟨o,e,ex⟩
   obtain⟨o,e,ex⟩:=z
   refine⟨⟨o,e,ex.1⟩,fun a e2=>?_⟩
   cases e2
   exact⟨o,e,ex.2.1⟩
  ·obtain⟨o,_,_,_,e,ex,_⟩:=I.hok p _ hk
   refine⟨⟨o,e,ex.1⟩,fun a e2=>?_⟩
   cases e2
   exact⟨o,e,ex.2.1⟩
 |_=>exact False.elim ty
def tBM(K:aa)(T:String)(r:V->List V->Hp->VK->Prop)(to:TE)(t:TA):TE:=fun σ H Q=>to σ H fun x H1=>tyV K T x H1∧t σ H1 fun xs H2=>r x xs H2 Q
variable{o e:Expr}{es:List Expr}{to:TE}{t:TA}{name:Str}{apos cpos:Pos}{T id:String}{r:V->List V->Hp->VK->Prop}
theorem y8R(pa:PlainAttrs T)(slot:Slot T name id)(hty:typeOf (.builtin id)=pure (.type "method_descriptor"))(hm:MtR X id r)(ho:PE X o to)(ha:PA X (e::es) t)
  (hbase:fG o name X.env (eval o X.env)=eval o X.env:=by rfl)
  (hfew:((fD cpos (starEach (e::es) X.env)).all (fun x=>!x.1)&&(backToKw cpos (keywordEach [] X.env)).all (fun x=>x.1.isSome)
   && decide ((e::es).length+([]:List fH).length+(if([]:List fH).isEmpty then 0 else 1)<30))=true:=by rfl)
  (hline:(apos.endLine==cpos.line)=true:=by rfl) (hs:starEach (e::es) X.env=(false,eval e X.env)::starEach es X.env:=by rfl) (hplain:(fD cpos (starEach es X.env)).any (·.1)=false:=by rfl):
  PE X (.Call (.Attribute o name apos) (e::es) [] cpos) (tBM X.K T r to t):=by
 intro pins s σ H Q I h
 refine wpAny_Call_method_late hbase hfew hline rfl (thn (ho pins s σ H _ I h) fun v s1 ⟨x,H1,I1,r1,ty,q1⟩=>?_)
 obtain⟨h1,h2⟩:=tyV_is I1 r1 ty
 refine⟨T,id,pa,slot,hty,h1,h2,?_⟩
 have hA:=ha cpos pins s1 σ H1 _ I1 q1
 rw[hs]at hA ⊢
 refine Calls.callWith_builtin (by show(false||(fD cpos (starEach es X.env)).any (·.1))=false;rw[hplain] <;> rfl) (Calls.evalArgs_plain ?_)
 exact thn hA fun us s2 ⟨vs,H2,I2,r2,q2⟩=>hm pins s2 σ H2 x vs v us Q I2 r1 r2 q2
end
def MtM(X:Cx)(id:String)(r:V->List V->Hp->VK->Prop):Prop:=
 ∀(pins:AO) (s:dw) (σ:St) (H:Hp) (x:V) (xs:List V) (v:Value) (us:List Value) (Q:VK),Inv X pins σ H s->RelV x v->Vals xs us->r x xs H Q →
  wpAny (model X.prog X.w) X.A (call (.builtin id) (v::us)) (EP X pins σ Q) X.xe s
theorem Vals.one:∀{x:V} {us:List Value},Vals [x] us->∃u,us=[u]∧RelV x u
 |_,_,.cons r .nil=>⟨_,rfl,r⟩
theorem Vals.two:∀{x y:V} {us:List Value},Vals [x,y] us->∃u v,us=[u,v]∧RelV x u∧RelV y v
 |_,_,_,.cons r (.cons q .nil)=>⟨_,_,rfl,r,q⟩
theorem Vals.rep{xs:List V}{us:List Value}(h:Vals xs us):∀k:Nat,Vals (ad k xs).flatten (ad k us).flatten
 |0=>.nil
 |k+1=>by
  rw[bj,bj,bz,bz]
  exact Vals.append h (Vals.rep h k)
theorem y0z(its:List Value):∀(k:Nat) (acc:List Value),
  ft (fun x1 x2=>x1++x2) acc.toArray (ad k its.toArray)=(acc++(ad k its).flatten).toArray
 |0,acc=>by simp
 |k+1,acc=>by
  have e:acc.toArray++its.toArray=(acc++its).toArray:=by simp
  have e2:(acc++its)++(ad k its).flatten=acc++(ad (k+1) its).flatten:=by
   rw[bj,bz,aP]
  rw[←e2,←y0z its k (acc++its),←e,bj,List.foldl_cons]
section
variable{X:Cx}{pins:AO}{σ:St}{H:Hp}{s:dw}{l:Addr}{xs ys:List V}
theorem Inv.lset{its its':List Value}{n:Nat}{f:Array Value->Array Value}{t':Nat}(I:Inv X pins σ H s)(hH:H l=some (.lst xs))
  (e:s.heap.get? l=some { cls:=.type "list",data:=.seq its.toArray n }) (hf:f its.toArray=its'.toArray) (hv:Vals ys its') (hz:ys.length≤sizeLine):
  Inv X pins σ (upd H l (.lst ys)) { s with heap:=s.heap.update l (Obj.mapSeq f),toks:=t' }:=by
 have q:=PySem.IsL.update e f
 rw[hf]at q
 refine I.write (x:=l) (e:=l) (by rw[hH];exact trivial) (.inl rfl) (fun b' u hb hu=>(Heap.get?_update_other s.heap (Obj.mapSeq f) (Ne.symm hb)).trans hu) ⟨_,q⟩ ?_
 exact⟨hz,its',_,hv,q⟩
theorem Inv.lnew{its:List Value}{t':Nat}(I:Inv X pins σ H s)(hv:Vals ys its)(hz:ys.length≤sizeLine):
  Inv X pins σ (upd H s.heap.objs.size (.lst ys)) { s with heap:=s.heap.push { cls:=.type "list",data:=.seq its.toArray },toks:=t' }:=
 I.laid (fun _ _ q=>Heap.get?_push_of_some _ q) (ar _) ⟨hz,its,0,hv,Heap.get?_push_size _ rfl⟩
theorem Inv.fresh(I:Inv X pins σ H s):H s.heap.objs.size=none:=I.hok.fresh (ar _)
theorem Inv.lstM(I:Inv X pins σ H s)(hH:H l=some (.lst xs)):xs.length≤sizeLine∧∃(its:List Value) (n:Nat),Vals xs its∧xs.length=its.length∧s.heap.get? l=some { cls:=.type "list",data:=.seq its.toArray n }:=by
 obtain⟨z,its,n,r,e⟩:=I.hok l _ hH
 exact⟨z,its,n,r,r.length,e⟩
theorem y4V{n:Nat}(h:n≤sizeLine):Builtin.List.listTooLong n=false:=by
 unfold Builtin.List.listTooLong
 exact decide_eq_false ⋯
end
section
variable{X:Cx}
def z9D:V->List V->Hp->VK->Prop:=fun x vs H Q=>∃l xs y,x = .ref l∧vs=[y]∧H l=some (.lst xs)∧xs.length<sizeLine∧Q .non (upd H l (.lst (xs++[y])))
theorem z1F:MtM X "list.append" z9D:=by
 intro pins s σ H x vs v us Q I rx rv h
 obtain⟨l,xs,y,rfl,rfl,hH,hz,q⟩:=h
 cases rx
 obtain⟨u,rfl,ru⟩:=rv.one
 obtain⟨z,its,n,r,hl,e⟩:=I.lstM hH
 refine call_meets F.slot_list_append ⟨_,e,rfl⟩ F.entry_list_append (F.args_list_append_2 _ _) (PySem.list_append l its.toArray n u (by rw[ay];omega)) ⟨e,?_⟩
 refine⟨.non,_,I.lset (its':=its++[u]) hH e (by simp) (r.append (.cons ru .nil)) ?_,rfl,q⟩
 rw[aB,List.length_singleton]
 omega
def rExtend:V->List V->Hp->VK->Prop:=fun x vs H Q=>∃l b xs zs,x = .ref l∧vs=[.ref b]∧H l=some (.lst xs)∧H b=some (.lst zs)∧xs.length+zs.length≤sizeLine∧Q .non (upd H l (.lst (xs++zs)))
theorem y0S:MtM X "list.extend" rExtend:=by
 intro pins s σ H x vs v us Q I rx rv h
 obtain⟨l,b,xs,zs,rfl,rfl,hH,hB,hz,q⟩:=h
 cases rx
 obtain⟨u,rfl,ru⟩:=rv.one
 cases ru
 obtain⟨z,its,n,r,hl,e⟩:=I.lstM hH
 obtain⟨z2,its2,n2,r2,hl2,e2⟩:=I.lstM hB
 have hsz:its.toArray.size+its2.toArray.size≤sizeLine:=by rw[ay,ay];omega
 have hlong:¬ (!its.toArray.isEmpty&&Builtin.List.listTooLong (its.toArray.size+its2.toArray.size))=true:=by
  rw[y4V hsz,eu]
  exact av
 refine call_meets F.slot_list_extend ⟨_,e,rfl⟩ F.entry_list_extend (F.args_list_extend_2 _ _)
  (AutoSeq1.list_extend_list_list_0 l its.toArray n b its2.toArray n2 hlong (by rw[ay];omega) ⋯) ⟨e,e2,?_⟩
 refine⟨.non,_,I.lset (its':=its++its2) hH e (by simp) (r.append r2) ?_,rfl,q⟩
 rw[aB]
 omega
def rCat:R2:=fun x y H Q=>∃l b xs zs,x = .ref l∧y = .ref b∧H l=some (.lst xs)∧H b=some (.lst zs)∧xs.length+zs.length≤sizeLine∧∀p,H p=none->Q (.ref p) (upd H p (.lst (xs++zs)))
theorem op_cat:OpR X (binaryOp .Add) rCat:=by
 intro pins s σ H x y v u Q I rx ry h
 obtain⟨l,b,xs,zs,rfl,rfl,hH,hB,hz,q⟩:=h
 cases rx
 cases ry
 obtain⟨z,its,n,r,hl,e⟩:=I.lstM hH
 obtain⟨z2,its2,n2,r2,hl2,e2⟩:=I.lstM hB
 refine PySem.P.add_list e e2 ?_ (by rw[ay,ay];omega)
 have ea:its.toArray++its2.toArray=(its++its2).toArray:=by simp
 rw[ea]
 exact⟨.ref _,_,I.lnew (t':=s.toks) (r.append r2) (by rw[aB];omega),rfl,q _ I.fresh⟩
def rRep:R2:=fun x y H Q=>∃l k xs,x = .ref l∧y = .int k∧H l=some (.lst xs)∧-(2 ^ 63)≤k∧k<2 ^ 63∧xs.length*k.toNat≤sizeLine ∧
 ∀p,H p=none->Q (.ref p) (upd H p (.lst (ad k.toNat xs).flatten))
theorem len_rep{α:Type}(xs:List α)(k:Nat):(ad k xs).flatten.length=k*xs.length:=by
 induction k with
 |zero=>simp
 |succ k ih=>rw[bj,bz,aB,ih,Nat.succ_mul,Nat.add_comm]
theorem op_rep:OpR X (binaryOp .Mult) rRep:=by
 intro pins s σ H x y v u Q I rx ry h
 obtain⟨l,k,xs,rfl,rfl,hH,h1,h2,hz,q⟩:=h
 cases rx
 obtain⟨t,rfl⟩:=ry
 obtain⟨z,its,n,r,hl,e⟩:=I.lstM hH
 have hlen:its.toArray.size*k.toNat≤sizeLine:=by rw[ay,←hl];exact hz
 have hcap:¬ its.toArray.size*k.toNat>(2 ^ 63 - 1) / 8:=by
  have:(sizeLine:Nat)≤(2 ^ 63 - 1) / 8:=by decide
  omega
 have hfit:¬ (!Builtin.List.listFitsIndex k)=true:=by
  rw[fitsIndex_both h1 h2]
  exact av
 have hlong:¬ Builtin.List.listTooLong (its.toArray.size*k.toNat)=true:=by
  rw[y4V hlen]
  exact av
 have hnew:ft (fun x1 x2=>x1++x2) #[] (ad (if its.toArray.isEmpty=true then 0 else k.toNat) its.toArray)=(ad k.toNat its).flatten.toArray:=by
  have f0:∀m:Nat,ft (fun x1 x2=>x1++x2) #[] (ad m its.toArray)=(ad m its).flatten.toArray:=fun m=>by
   have:=y0z its m []
   rw[cG]at this
   exact this
  rw[f0]
  cases its with
  |nil=>simp
  |cons a r'=>rw[if_neg (by simp)]
 refine wpAny_binaryOp_repeat_ref (T := "list") (U := "int") nofun ⟨_,e,rfl⟩ (fun s'=>typeIs_int s' k t) noFill_list_mul F.fills_int_mul F.slot_int_rmul repeat_list F.slot_int_index.lookup
  (call_meets F.slot_int_rmul (typeIs_int s k t) F.entry_int_rmul (F.args_int_rmul_2 _ _) (int___rmul___int_list k t l its.toArray n)
   ⟨e,rfl,⟨_,e,rfl⟩,call_meets F.slot_list_mul ⟨_,e,rfl⟩ F.entry_list_mul (F.args_list_mul_2 _ _) (AutoListH.list___mul___list_int_3 l its.toArray n k t hfit hcap hlong) ⟨e,?_⟩⟩)
 rw[hnew]
 exact⟨.ref _,_,I.lnew (t':=s.toks) (r.rep k.toNat) (by rw[len_rep,Nat.mul_comm];exact hz),rfl,q _ I.fresh⟩
end
section
end
section
end
end L2
namespace Att
open PySem PySem.W PySem.Calls PyProof.Rows
theorem z8b{P:Params}{h:Heap}:∀(ns:List Int) (vs:List Value),WellAll P h vs (ns.map WData.int)->fJ vs ns:=by
 intro ns
 induction ns with
 |nil=>
  intro vs w
  rw[dJ]at w
  cases w
  exact .nil
 |cons n ns ih=>
  intro vs w
  rw[aH]at w
  cases w with
  |cons a b=>
   cases a
   exact .cons _ _ (ih _ b)
theorem y6u{l:OpenLaw}{n:Nat}(hn:l.most=some n){P:Params}{h:Heap}{args:List WData}{vals:List Value}
  (hpre:l.row.toRowW.claim.pre args=true) (hwl:WellAll P h vals args):
  ∃a vs ns,vals=[Value.ref a]∧args=[WData.list (ns.map WData.int)]∧h.get? a=some { cls:=.type "list",data:=.seq vs.toArray }∧fJ vs ns∧ns.length≤n:=by
 have hsh:WShape.hasAll [] args [.list .int]=true:=(pre_splitW hpre).1
 have hc:l.pre.holds [] { args:=args }=true:=(pre_splitW hpre).2
 obtain⟨d,r,rfl,h1,h2⟩:=hasAllW_cons hsh
 obtain rfl:=hasAllW_nil h2
 obtain⟨xs,rfl,h3⟩:=hasW_list h1
 obtain⟨ns,rfl⟩:=items_int h3
 have hlen:ns.length≤n:=by
  unfold OpenLaw.pre at hc
  have h4:(WTm.not (.lt (.lit (.int (n:Int))) (.len (.arg 0)))).holds [] { args:=[.list (ns.map .int)] }=true:=by
   have h4:=(holds_andW hc).1
   rw[hn]at h4
   exact h4
  have h5:=condW_of h4 (w_not (w_lt w_lit (w_len_list (w_arg rfl))))
  rw[ao]at h5
  refine Nat.le_of_not_lt fun q=>?_
  have q':(n:Int)<((ns.length:Nat):Int):=by omega
  first
   | (rw[decide_eq_true q']at h5;exact absurd h5 nofun)
   | (simp at h5;omega)
 cases hwl with
 |cons w1 w2=>
  cases w2
  cases w1 with
  |list ho hall=>exact⟨_,_,ns,rfl,rfl,ho,z8b ns _ hall,hlen⟩
theorem y9s(l:OpenLaw)(args:List WData):l.row.toRowW.claim.post args (.bool true) args=true:=
 postW_of (r:=l.row.toRowW) (X:=(true==true))
  (show WShape.has [] (.bool true) .bool=true by first | rfl | decide | simp[WShape.has,WShape.arms,WShape.armsAll])
  (show(WTm.eq .res (.lit (.bool true))).value [] { args:=args,res:=some (.bool true),after:=args }=some (.bool (true==true)) from w_eq_bool (w_res rfl) w_lit) rfl
theorem attach_call{l:OpenLaw}{n:Nat}{q:fw}{loose:List Str}{XP:(Str->Option Value)->Heap->Prop}{YP:fx->Heap->Prop}{d:DefRec}
  (hn:l.most=some n) (hdf:d.params.defaults=[])
  (call:∀(w:fx) (s₀ s₁:dw) (mg mb:Str->Option Value) (fa:Addr) (o:Obj) (pm cd doc:Value) (a:Addr) (vs:List Value) (ns:List Int),
   Ground q loose [] XP w s₀ mg mb s₁.heap->YP w s₁.heap →
   s₁.heap.get? fa=some o->o.data = .func (docDef d.name d.params d.body d.scope pm cd doc)->s₁.heap.CodeRec cd d.name->mg d.name=some (.ref fa) →
   s₁.heap.get? a=some { cls:=.type "list",data:=.seq vs.toArray }->fJ vs ns->ns.length≤n->s₁.gens = #[] →
   codeAny (model l.prog w) callerA (.call (.ref fa) ⟨[.ref a],[]⟩) (fun r s'=>r = .ok (.ret (.bool true))∧OldK s₁.heap s'.heap∧s'.os=s₁.os∧AllBare s'.gens) s₁):
  WalkO q loose XP YP l.row.toRowW d [] (fun f vs=>PySem.call f vs):=by
 intro w s₀ s₁ mg mb G Y fa o pm cd doc dV kV ho hd hcd hD hmg hg args vals as hpre hlay hrd hwl hlo
 obtain rfl:dV = .none:=Dflts.none hD hdf
 obtain rfl:kV = .none:=Dflts.noKw hD
 obtain⟨a,vs,ns,rfl,rfl,hobj,hints,hlen⟩:=y6u hn hpre hwl
 refine enter_call (codeAny_mono (call w s₀ s₁ mg mb fa o pm cd doc a vs ns G Y ho (fd_plain hd) hcd hmg hobj hints hlen hg) fun r s' hq=>?_)
 obtain⟨rfl,h2,h3,h4⟩:=hq
 exact⟨.inl ⟨.bool true,.bool true,[],rfl,fun _=>rfl,.bool true,y9s l _,fun _=>⟨List.Pairwise.nil,fun _ hm=>(nomatch hm)⟩⟩,h2,h3,h4⟩
section
def ledger(h:Heap)(L d:Addr):AO:=(ah h.objs.size).filterMap fun a=>if a=L∨a=d then none else(h.get? a).map fun o=>(a,o)
end
end Att
namespace L2
open PySem PySem.Spec PyProof.Rows
theorem y1P:∀{vs:List Value} {ns:List Int},fJ vs ns->Vals (ns.map V.int) vs
 |_,_,.nil=>.nil
 |_,_,.cons n t h=>.cons ⟨t,rfl⟩ (y1P h)
def Only(H:Hp):Prop:=∀b,H b=none∨∃o xs,H b=some (.frz o (.lst xs))
theorem x2v{P:fw}{w:fx}{K:aa}{mg mb:Str->Option Value}{CX:CXT}{k:Nat}{fa a:Addr}{fd:fy}{x:Str}{sp:Sp}{s₁:dw}{vs:List Value}{ns:List Int}
  (KX:K.In s₁.heap) (hns:s₁.heap.Ns mainGlobals mg) (hb:s₁.heap.Ns builtinsNs mb) (hbb:∀x:Str,x ≠ "__name__" → mb x=fE x) (hlim:s₁.heap.NoLimit) (hg:s₁.gens = #[])
  (ha:s₁.heap.get? a=some { cls:=.type "list",data:=.seq vs.toArray }) (hi:fJ vs ns) (hl:ns.length≤sizeLine) (hr:Room k callerA)
  (F:∀base:Heap,K.In base->base.Ns mainGlobals mg->FnOk P w K mg base CX k fa fd [x] sp) (hbind:∀(s:dw) (u:Value),BindsTo s fd ⟨[u],[]⟩ [(x,u)])
  (hsp:∀H:Hp,Only H->SqL K H a (ns.map V.int)->sp [.ref a] H (fun v _=>v = .bl true) fun _ _ _=>False)
  (hCX:∀H e s',CX [] H s₁ (fun _ _ _=>False) e s'->False):
  codeAny (model P w) callerA (.call (.ref fa) ⟨[.ref a],[]⟩) (fun r s'=>r = .ok (.ret (.bool true))∧OldK s₁.heap s'.heap∧s'.os=s₁.os∧AllBare s'.gens) s₁:=by
 have rv:=y1P hi
 have lenV:=hi.length
 have core:∀H:Hp,Only H->SqL K H a (ns.map V.int)->HOk P w H s₁.heap->(∀b,H b≠none->b=a)->(H a≠none->K.lookup a=none) →
   codeAny (model P w) callerA (.call (.ref fa) ⟨[.ref a],[]⟩) (fun r s'=>r = .ok (.ret (.bool true))∧OldK s₁.heap s'.heap∧s'.os=s₁.os∧AllBare s'.gens) s₁:=by
  intro H hO hS hok hA hK
  have base_of:∀{b:Addr} {o:Obj},s₁.heap.get? b=some o->H b=none->(x0V s₁.heap H).get? b=some o:=fun e n=>x1x e n
  have noA:∀{b:Addr} {o:Obj} {es:Array DictEntry} {ep:Nat},s₁.heap.get? b=some o->o.data = .dict es ep->H b=none:=fun {b o es ep} e d=>by
   cases q:H b with
   |none=>rfl
   |some u=>
    have e':b=a:=hA b (by rw[q];simp)
    subst e'
    rw[ha]at e;cases e
    have d':Data.seq vs.toArray _=Data.dict es ep:=d
    cases d'
  have nsK:∀{b:Addr} {m:Str->Option Value},s₁.heap.Ns b m->(x0V s₁.heap H).Ns b m:=fun {b m} ⟨o,es,ep,e,d,r⟩=>⟨o,es,ep,base_of e (noA e d),d,r⟩
  have hKb:K.In (x0V s₁.heap H):=fun b o e=>base_of (KX b o e) (by
   cases q:H b with
   |none=>rfl
   |some u=>
    have e':b=a:=hA b (by rw[q];simp)
    subst e'
    rw[hK (by rw[q];simp)]at e;cases e)
  have hM:Mod K mg (x0V s₁.heap H):=⟨hKb,nsK hns,⟨mb,nsK hb,hbb⟩,let⟨mc,h1,h2⟩:=hlim;⟨mc,nsK h1,h2⟩⟩
  have e0:Env0 P w K mg (x0V s₁.heap H) callerA [] s₁ H:=⟨rfl,hM,fun b o e=>of_hidT e,Nat.le_of_eq (y9M _ _),trivial,fun b hb=>absurd (show b∈([]:List Addr) from hb) (by simp),hok,.of_eq hg⟩
  refine codeAny_mono ((F _ hKb (nsK hns)).run callerA [] s₁ H ⟨[.ref a],[]⟩ [.ref a] [.ref a] _ _ hr e0 (hbind s₁ (.ref a)) (.cons rfl .nil) (hsp H hO hS)) fun r s' h=>?_
  cases r with
  |error e=>exact(hCX H e s' h).elim
  |ok fl=>
   cases fl with
   |next=>exact False.elim h
   |brk=>exact False.elim h
   |cont=>exact False.elim h
   |ret u=>
    obtain⟨v,H',os,bare,un,hok',r',q⟩:=h
    have q':v = .bl true:=q
    subst q'
    obtain rfl:u=Value.bool true:=r'
    refine⟨rfl,OldK.of_keep fun b o e=>?_,os,bare⟩
    cases q:H b with
    |none=>exact un.keep b o e q (by intro z;exact absurd (show b∈([]:List Addr) from z) (by simp)) (by simp)
    |some u=>
     rcases hO b with z | ⟨ob,xs,z⟩
     ·rw[q]at z;cases z
     ·have z2:=un.frzs b ob _ z
      obtain⟨e1,_⟩:=hok b _ z
      obtain⟨e2,_⟩:=hok' b _ z2
      rw[e]at e1;cases e1
      exact e2
 cases hk:K.lookup a with
 |some o=>
  have e:=KX a o hk
  rw[ha]at e
  cases e
  refine core (fun _=>none) (fun _=>.inl rfl) (.inr ⟨_,vs.toArray,_,hk,rfl,rfl,rfl,by rw[ay,lenV];exact hl,by simpa using rv⟩) (fun b u z=>by have z':(none:Option HO)=some u:=z;cases z') (fun b z=>absurd rfl z) fun z=>absurd rfl z
 |none=>
  refine core (fun b=>if b=a then some (.frz { cls:=.type "list",data:=.seq vs.toArray } (.lst (ns.map V.int)))else none) (fun b=>?_) (.inl (.inr ⟨{ cls:=.type "list",data:=.seq vs.toArray },if_pos rfl⟩)) (fun b u z=>?_) (fun b z=>?_) fun _=>hk
  ·by_cases hb:b=a
   ·exact .inr ⟨_,_,if_pos hb⟩
   ·exact .inl (if_neg hb)
  ·by_cases hb:b=a
   ·have z':=(if_pos hb).symm.trans z
    cases z'
    subst hb
    exact⟨ha,by rw[ao];exact hl,vs,_,rv,ha⟩
   ·have z':=(if_neg hb).symm.trans z
    cases z'
  ·by_cases hb:b=a
   ·exact hb
   ·exact absurd (if_neg hb) z
abbrev KOf{K:aa}{h:Heap}(_:K.In h):aa:=K
theorem walk_of{l:dO}{n k:Nat}{q:fw}{loose:List Str}{XP:(Str->Option Value)->Heap->Prop}{YP:fx->Heap->Prop}{d:DefRec}{K:Params->aa}{CX:fx->CXT}{sp:fx->Sp}{x:Str}
  (hn:l.most=some n) (hn2:n≤sizeLine) (hdf:d.params.defaults=[]) (hr:Room k callerA)
  (hY:∀(w:fx) (h:Heap),YP w h->(K w.params).In h)
  (F:∀(w:fx) (mg:Str->Option Value) (fa:Addr) (h:Heap),(K w.params).In h->h.Ns mainGlobals mg->mg d.name=some (.ref fa) →
   ∃fd:fy,(∀(s:dw) (u:Value),BindsTo s fd ⟨[u],[]⟩ [(x,u)]) ∧
    ∀base:Heap,(K w.params).In base->base.Ns mainGlobals mg->FnOk l.prog w (K w.params) mg base (CX w) k fa fd [x] (sp w))
  (hsp:∀(w:fx) (H:Hp) (a:Addr) (ns:List Int),ns.length≤n->Only H->SqL (K w.params) H a (ns.map V.int)->sp w [.ref a] H (fun v _=>v = .bl true) fun _ _ _=>False)
  (hCX:∀(w:fx) (H:Hp) (s:dw) (e:Value) (s':dw),CX w [] H s (fun _ _ _=>False) e s'->False):
  PySem.W.WalkO q loose XP YP l.row.toRowW d [] (fun f vs=>PySem.call f vs):=by
 refine Att.attach_call hn hdf fun w s₀ s₁ mg mb fa o pm cd doc a vs ns G Y ho hd hcd hmg hobj hints hlen hg=>?_
 have KX:=hY w _ Y
 obtain⟨fd,hb,hF⟩:=F w mg fa _ KX G.T.g hmg
 exact x2v KX G.T.g G.T.b G.T.builtins G.T.nolimit hg hobj hints (aI hlen hn2) hr hF hb (fun H hO hS=>hsp w H a ns hlen hO hS) fun H e s'=>hCX w H s₁ e s'
def z2J(s:Stmt):Arguments:=match s with
 |.FunctionDef _ a _ _ _ _ _ _ _ _=>a
 |_=>{ posonlyargs:=[],args:=[],vararg:=none,kwonlyargs:=[],kw_defaults:=[],kwarg:=none,defaults:=[] }
def z0X(s:Stmt):List Stmt:=match s with
 |.FunctionDef _ _ b _ _ _ _ _ _ _=>b
 |_=>[]
def z0g(s:Stmt):fI:=match s with
 |.FunctionDef _ _ _ _ _ _ sc _ _ _=>sc
 |_=>{ kind:=.function,names:=[],isGenerator:=false,isCoroutine:=false }
abbrev CX0:CXT:=fun _ _ _ _ _ _=>False
abbrev E0:XK:=fun _ _ _=>False
theorem pass0{X:Cx}:y8G CX0 X E0:=fun _ _ _ _ _ _ _ h=>h.elim
structure Fun(K:aa)(x qual:Str)(st:Stmt)(f:Addr)(fd:fy):Prop where
 ex:∃(oc:Value) (od:Option Addr) (kV doc pm:Value) (an:Option Addr) (cdv ct:Value) (osl:Array (Option Value)),
  fd=bu x qual (z2J st) (z0X st) (z0g st) .none kV doc pm an cdv ct∧K.lookup f=some ⟨oc,od,.func fd,osl⟩∧cV K cdv qual=true
 kp:bB K (.ref f)=true
section
variable{P:fw}{w:fx}{K:aa}{mg:Str->Option Value}{base:Heap}
theorem Fun.ok{x qual:Str}{st:Stmt}{f:Addr}{fd:fy}{N ps:List Str}{k:Nat}{sp:Sp}(F:Fun K x qual st f fd)(S:FnScope N ps (z0g st))(len:∀vs H Q E,sp vs H Q E->vs.length=ps.length)
  (hbody:∀(cdv:Value) (A:Around) (outer:List Env) (s:dw) (H:Hp) (vs:List V) (Q:VK) (E:XK),Room k (A.deeper (envOfC qual (z0g st) s.heap.objs.size f cdv))->sp vs H Q E →
   ∃t,PSs (z8p CX0 P w K mg base N qual (z0g st) f cdv A outer s H E).nox (z0X st) t∧t { nx:=fun _ H'=>Q .non H',rt:=Q } (z4O N vs) H):FnOk P w K mg base CX0 (k+1) f fd ps sp:=by
 obtain⟨oc,od,kV,doc,pm,an,cdv,ct,osl,rfl,lk,hcd⟩:=F.ex
 refine fn_of lk hcd S len fun A outer s H vs Q E hr hsp=>?_
 obtain⟨t,h,q⟩:=hbody cdv A outer s H vs Q E hr hsp
 exact⟨t,h.nox,q⟩
theorem Fun.binds{x qual:Str}{st:Stmt}{f:Addr}{fd:fy}{ps:List Str}(F:Fun K x qual st f fd)
  (h:∀(kV doc pm:Value) (an:Option Addr) (cdv ct:Value) (us:List Value),us.length=ps.length->bindArgs (bu x qual (z2J st) (z0X st) (z0g st) .none kV doc pm an cdv ct) ⟨us,[]⟩=pure (ps.zip us)):Binds K fd ps []:=by
 obtain⟨oc,od,kV,doc,pm,an,cdv,ct,osl,rfl,lk,hcd⟩:=F.ex
 exact .all (h kV doc pm an cdv ct)
theorem fun_mk{x qual:Str}{st:Stmt}{f:Addr}{oc:Value}{od an:Option Addr}{osl:Array (Option Value)}{kV doc pm cdv ct:Value}(l:K.lookup f=some ⟨oc,od,.func (bu x qual (z2J st) (z0X st) (z0g st) .none kV doc pm an cdv ct),osl⟩)
  (c:cV K cdv qual=true) (k:bB K (.ref f)=true):Fun K x qual st f (bu x qual (z2J st) (z0X st) (z0g st) .none kV doc pm an cdv ct):=⟨⟨oc,od,kV,doc,pm,an,cdv,ct,osl,rfl,l,c⟩,k⟩
end
theorem z7o{n:Nat}(h:n≤1000):n<sizeLine:=Nat.lt_of_le_of_lt h nofun
section
variable{X:Cx}
theorem pv(i:Nat){x:Str}{pos:Pos}(hN:X.N[i]? = some x:=by rfl)(hv:Vis X.env.scope x:=by first | exact Or.inl rfl | exact Or.inr ∅ | exact Or.inr (Or.inr rfl))(hd:(x==("__debug__" : Str))=false:=by decide)
  (hcd:(x==("__classdict__" : Str))=false:=by decide):PE X (.Name x pos) (y1a i):=pe_var hN hv hd hcd
end
theorem iteF{A B:Prop}(h:B):if false=true then A else B:=by
 rw[if_neg av]
 exact h
theorem iteT{A B:Prop}(h:A):if true=true then A else B:=by
 rw[if_pos rfl]
 exact h
def Same(H H':Hp):Prop:=∀b o,H b=some o->H' b=some o
theorem Same.refl(H:Hp):Same H H:=fun _ _ h=>h
theorem Same.trans{H H1 H2:Hp}(a:Same H H1)(b:Same H1 H2):Same H H2:=fun c o h=>b c o (a c o h)
theorem Same.free{H H':Hp}(e:Same H H'){l:Addr}(h:H' l=Option.none):H l=Option.none:=by
 cases q:H l with
 |none=>rfl
 |some o=>
  rw[e l o q]at h
  cases h
section
variable{κ:Type}[DecidableEq κ]
def y4y(kvs:List (κ×V))(k:κ):Option V:=(kvs.find? fun kv=>decide (kv.1=k)).map (·.2)
def z8q(kvs:List (κ×V))(k:κ)(v:V):List (κ×V):=
 if(kvs.any fun kv=>decide (kv.1=k))=true then kvs.map (fun kv=>if kv.1=k then(kv.1,v)else kv)else kvs++[(k,v)]
theorem z9r{p:κ×V}{r:List (κ×V)}{k:κ}(e:p.1=k):y4y (p::r) k=some p.2:=by simp[y4y,bH,e]
theorem y0i{p:κ×V}{r:List (κ×V)}{k:κ}(e:¬ p.1=k):y4y (p::r) k=y4y r k:=by simp[y4y,bH,e]
theorem z9t(k:κ):∀kvs:List (κ×V),(kvs.any fun kv=>decide (kv.1=k))=(y4y kvs k).isSome
 |[]=>rfl
 |p::r=>by
  rw[cR]
  by_cases e:p.1=k
  ·simp only[z9r e,decide_eq_true e,Bool.true_or,eY]
  ·rw[y0i e,decide_eq_false e,Bool.false_or];exact z9t k r
theorem z5b(kvs:List (κ×V))(k:κ)(v:V):(z8q kvs k v).length≤kvs.length+1:=by
 unfold z8q
 split
 ·rw[ao];omega
 ·rw[aB,bc,dZ];omega
theorem RelO.isSome_eq{o:Option V}{u:Option Value}(r:RelO o u):o.isSome=u.isSome:=by
 cases o with
 |none=>cases u with
  |none=>rfl
  |some _=>exact(show False from r).elim
 |some _=>cases u with
  |none=>exact(show False from r).elim
  |some _=>rfl
theorem KV.val{kvs:List (κ×V)}{vs:List (κ×Value)}(r:KV kvs vs)(k:κ):RelO (y4y kvs k) (valueAt vs k):=by
 unfold KV at r
 induction r with
 |nil=>exact True.intro
 | @cons p q ps qs h t ih=>
  obtain⟨h1,h2⟩:=h
  by_cases e:p.1=k
  ·have e':q.1=k:=h1.symm.trans e
   have b:valueAt (q::qs) k=some q.2:=by simp[valueAt,bH,e']
   rw[z9r e,b];exact h2
  ·have e':¬ q.1=k:=fun z=>e (h1.trans z)
   have b:valueAt (q::qs) k=valueAt qs k:=by simp[valueAt,bH,e']
   rw[y0i e,b];exact ih
theorem KV.any{kvs:List (κ×V)}{vs:List (κ×Value)}(r:KV kvs vs)(k:κ):(kvs.any fun kv=>decide (kv.1=k))=vs.any fun kv=>decide (kv.1=k):=by
 unfold KV at r
 induction r with
 |nil=>rfl
 |cons h t ih=>rw[cR,cR,ih,h.1]
theorem KV.repl{kvs:List (κ×V)}{vs:List (κ×Value)}(r:KV kvs vs)(k:κ){y:V}{u:Value}(ry:RelV y u):
  KV (kvs.map fun kv=>if kv.1=k then(kv.1,y)else kv) (vs.map fun kv=>if kv.1=k then(kv.1,u)else kv):=by
 unfold KV at r ⊢
 induction r with
 |nil=>exact .nil
 | @cons p q ps qs h t ih=>
  rw[aH,aH]
  refine .cons ?_ ih
  obtain⟨h1,h2⟩:=h
  by_cases e:p.1=k
  ·rw[if_pos e,if_pos (h1.symm.trans e)];exact⟨h1,ry⟩
  ·rw[if_neg e,if_neg (fun z=>e (h1.trans z))];exact⟨h1,h2⟩
theorem KV.put{kvs:List (κ×V)}{vs:List (κ×Value)}(r:KV kvs vs)(k:κ){y:V}{u:Value}(ry:RelV y u):KV (z8q kvs k y) (stored vs k u):=by
 unfold z8q stored
 rw[r.any k]
 by_cases e:(vs.any fun kv=>decide (kv.1=k))=true
 ·rw[if_pos e,if_pos e];exact r.repl k ry
 ·rw[if_neg e,if_neg e];exact Paired.snoc r ⟨rfl,ry⟩
theorem KV.keys{kvs:List (κ×V)}{vs:List (κ×Value)}(r:KV kvs vs):kvs.map (·.1)=vs.map (·.1):=by
 unfold KV at r
 induction r with
 |nil=>rfl
 |cons h t ih=>rw[aH,aH,ih,h.1]
theorem KV.length{kvs:List (κ×V)}{vs:List (κ×Value)}(r:KV kvs vs):kvs.length=vs.length:=Paired.length r
end
theorem y6T{P:fw}{w:fx}{k:Key}{u:Value}(r:RelV (kV k) u):(z1l P w).is k u=true:=by
 cases k with
 |inl i=>obtain⟨t,e⟩:=(show ∃t,u=Value.int i t from r);subst e;exact y3n P w i t
 |inr x=>obtain⟨t,e⟩:=(show ∃t,u=Value.str x t from r);subst e;exact y2A P w x t
theorem y1o{P:fw}{w:fx}:∀{ks:List Key} {us:List Value},Vals (ks.map kV) us->ItemsAre (z1l P w) ks us
 |[],_,r=>by rw[dJ]at r;cases r;exact .nil
 |k::ks,_,r=>by
  rw[aH]at r
  cases r with
  |cons h t=>exact .cons (y6T h) (y1o t)
abbrev KT(H:Hp):List (List Key×V)->List (List Key×Addr×Value)->Prop:=Paired fun p q=>p.1=q.1∧H q.2.1=some (.tup (p.1.map kV))∧RelV p.2 q.2.2
theorem KT.val{H:Hp}{kvs:List (List Key×V)}{xs:List (List Key×Addr×Value)}(r:KT H kvs xs)(k:List Key):RelO (y4y kvs k) ((atKey xs k).map (·.2)):=by
 induction r with
 |nil=>exact True.intro
 | @cons p q ps qs h t ih=>
  obtain⟨h1,_,h2⟩:=h
  by_cases e:p.1=k
  ·have e':q.1=k:=h1.symm.trans e
   have b:atKey (q::qs) k=some q.2:=by simp[atKey,bH,e']
   rw[z9r e,b];exact h2
  ·have e':¬ q.1=k:=fun z=>e (h1.trans z)
   have b:atKey (q::qs) k=atKey qs k:=by simp[atKey,bH,e']
   rw[y0i e,b];exact ih
theorem KT.repl{H:Hp}{kvs:List (List Key×V)}{xs:List (List Key×Addr×Value)}(r:KT H kvs xs)(k:List Key){y:V}{u:Value}(ry:RelV y u):
  KT H (kvs.map fun kv=>if kv.1=k then(kv.1,y)else kv) (xs.map (putAt k u)):=by
 induction r with
 |nil=>exact .nil
 | @cons p q ps qs h t ih=>
  rw[aH,aH]
  refine .cons ?_ ih
  obtain⟨h1,h2,h3⟩:=h
  unfold putAt
  by_cases e:p.1=k
  ·rw[if_pos e,if_pos (h1.symm.trans e)];exact⟨h1,h2,ry⟩
  ·rw[if_neg e,if_neg (fun z=>e (h1.trans z))];exact⟨h1,h2,h3⟩
theorem KT.put{H:Hp}{kvs:List (List Key×V)}{xs:List (List Key×Addr×Value)}(r:KT H kvs xs)(k:List Key){b:Addr}{y:V}{u:Value}(hb:H b=some (.tup (k.map kV)))(ry:RelV y u):
  KT H (z8q kvs k y) (storedH xs k b u):=by
 have e:(kvs.any fun kv=>decide (kv.1=k))=(atKey xs k).isSome:=by
  rw[z9t,(r.val k).isSome_eq,dz]
 unfold z8q storedH
 rw[e]
 by_cases q:(atKey xs k).isSome=true
 ·rw[if_pos q,if_pos q];exact r.repl k ry
 ·rw[if_neg q,if_neg q];exact Paired.snoc r ⟨rfl,hb,ry⟩
theorem KT.keeps{H H':Hp}{kvs:List (List Key×V)}{xs:List (List Key×Addr×Value)}(r:KT H kvs xs)(ht:∀b ys,H b=some (.tup ys)->H' b=some (.tup ys)):KT H' kvs xs:=
 Paired.mapP r fun _ _ z=>⟨z.1,ht _ _ z.2.1,z.2.2⟩
section
variable{P:fw}{w:fx}{H:Hp}{h:Heap}{a:Addr}
theorem rd_of{u:HO}(ok:HOk P w H h)(e:Rd H a u):ObjOk P w H h a u:=e.ok ok
theorem dk_rd{kvs:List (Key×V)}(ok:HOk P w H h)(e:Rd H a (.dK kvs)):kvs.length≤sizeLine∧(a==sysModules)=false∧∃vs,KV kvs vs∧h.DictOf (z1l P w) a vs:=
 show ObjOk P w H h a (.dK kvs) from rd_of ok e
theorem dk_of{kvs:List (Key×V)}(ok:HOk P w H h)(e:H a=some (.dK kvs)):kvs.length≤sizeLine∧(a==sysModules)=false∧∃vs,KV kvs vs∧h.DictOf (z1l P w) a vs:=dk_rd ok (.inl e)
theorem y3A{ks:List Key}(ok:HOk P w H h)(e:H a=some (.tup (ks.map kV))):(tupleKind (z1l P w)).is h ks a:=by
 obtain⟨_,its,r,o,h1,h2,n,h3⟩:=(show ObjOk P w H h a (.tup (ks.map kV)) from ok a _ e)
 exact⟨o,its.toArray,n,h1,h2.1,h3,by simpa using y1o r⟩
theorem dt_rd{kvs:List (List Key×V)}(ok:HOk P w H h)(e:Rd H a (.dT kvs)):kvs.length≤sizeLine∧(a==sysModules)=false ∧
  ∃xs,KT H kvs xs∧h.DictOfH (tupleKind (z1l P w)) a xs:=by
 obtain⟨z,y,xs,r,o,es,ep,h1,h2,h3,h4,h5⟩:=(show ObjOk P w H h a (.dT kvs) from rd_of ok e)
 refine⟨z,y,xs,r,o,es,ep,h1,h2,h3,h4,fun x hx=>?_,h5⟩
 have all:∀{l:List (List Key×V)} {m:List (List Key×Addr×Value)},KT H l m->∀x∈m,(tupleKind (z1l P w)).is h x.1 x.2.1:=by
  intro l m q
  induction q with
  |nil=>intro x hx;exact nomatch hx
  | @cons p q ps qs hq t ih=>
   intro x hx
   rcases ai.mp hx with e | hx
   ·subst e
    exact y3A ok (by rw[←hq.1];exact hq.2.1)
   ·exact ih x hx
 exact all r x hx
theorem dt_of{kvs:List (List Key×V)}(ok:HOk P w H h)(e:H a=some (.dT kvs)):kvs.length≤sizeLine∧(a==sysModules)=false ∧
  ∃xs,KT H kvs xs∧h.DictOfH (tupleKind (z1l P w)) a xs:=dt_rd ok (.inl e)
end
def DGet(H:Hp)(a:Addr)(y:V)(r:Option V):Prop:=
 (∃kvs k,Rd H a (.dK kvs)∧y=kV k∧r=y4y kvs k)∨∃kvs k b,Rd H a (.dT kvs)∧y = .ref b∧H b=some (.tup (k.map kV))∧r=y4y kvs k
def DPut(H:Hp)(a:Addr)(y v:V)(H':Hp):Prop:=
 (∃kvs k,H a=some (.dK kvs)∧y=kV k∧kvs.length<sizeLine∧H'=upd H a (.dK (z8q kvs k v))) ∨
 ∃kvs k b,H a=some (.dT kvs)∧y = .ref b∧H b=some (.tup (k.map kV))∧kvs.length<sizeLine∧H'=upd H a (.dT (z8q kvs k v))
theorem DGet.k{H:Hp}{a:Addr}{kvs:List (Key×V)}{k:Key}(e:H a=some (.dK kvs)):DGet H a (kV k) (y4y kvs k):=.inl ⟨kvs,k,.inl e,rfl,rfl⟩
theorem DPut.k{H:Hp}{a:Addr}{kvs:List (Key×V)}{k:Key}{v:V}(e:H a=some (.dK kvs))(hl:kvs.length<sizeLine):DPut H a (kV k) v (upd H a (.dK (z8q kvs k v))):=.inl ⟨kvs,k,e,rfl,hl,rfl⟩
section
variable{X:Cx}{pins:AO}{σ:St}{H:Hp}{s:dw}{a:Addr}{y v:V}{u r:Value}{o:Option V}{A:Around}{E:Value->dw->Prop}
theorem Inv.big(I:Inv X pins σ H s):sysModules<s.heap.objs.size:=by
 have h:mainGlobals<s.heap.objs.size:=(I.mod.glob.keeps I.bk).lt
 exact Nat.lt_trans nofun h
theorem d_in{Q:Value->dw->Prop}(hu:A.units+1<fK)(I:Inv X pins σ H s)(g:DGet H a y o)(ry:RelV y u)(h:∀s',Inv X pins σ H s'->Q (.bool o.isSome) s'):
  wpAny (model X.prog X.w) A (compareOp .In u (.ref a)) Q E s:=by
 rcases g with⟨kvs,k,e,ey,l⟩ | ⟨kvs,k,b,e,ey,eb,l⟩
 ·subst ey
  obtain⟨z,hd,vs,rel,dd⟩:=dk_rd I.hok e
  refine wpAny_in_of (y6T ry) hd dd.mapOf ?_
  rw[←(rel.val k).isSome_eq,←l]
  exact h _ (I.tok _)
 ·subst ey
  cases (show u=Value.ref b from ry)
  obtain⟨z,hd,xs,rel,dd⟩:=dt_rd I.hok e
  refine wpAny_in_heap (tupleKind_room_in1 hu) (y3A I.hok eb) hd dd ?_
  have q:=(rel.val k).isSome_eq
  rw[dz]at q
  rw[←q,←l]
  exact h _ (I.tok _)
theorem d_notIn{Q:Value->dw->Prop}(hu:A.units+1<fK)(I:Inv X pins σ H s)(g:DGet H a y o)(ry:RelV y u)(h:∀s',Inv X pins σ H s'->Q (.bool (!o.isSome)) s'):
  wpAny (model X.prog X.w) A (compareOp .NotIn u (.ref a)) Q E s:=by
 rcases g with⟨kvs,k,e,ey,l⟩ | ⟨kvs,k,b,e,ey,eb,l⟩
 ·subst ey
  obtain⟨z,hd,vs,rel,dd⟩:=dk_rd I.hok e
  refine wpAny_notIn_of (y6T ry) hd dd.mapOf ?_
  rw[←(rel.val k).isSome_eq,←l]
  exact h _ (I.tok _)
 ·subst ey
  cases (show u=Value.ref b from ry)
  obtain⟨z,hd,xs,rel,dd⟩:=dt_rd I.hok e
  refine wpAny_notIn_heap (tupleKind_room_in1 hu) (y3A I.hok eb) hd dd ?_
  have q:=(rel.val k).isSome_eq
  rw[dz]at q
  rw[←q,←l]
  exact h _ (I.tok _)
theorem y2i{h':Heap}{t':Nat}{ob:HO}(I:Inv X pins σ H s)(mu:Mut (H a))(hs:Heap.SameBut a s.heap h')(he:∃q,h'.get? a=some q)(new:ObjOk X.prog X.w (upd H a ob) h' a ob):
  Inv X pins σ (upd H a ob) { s with heap:=h',toks:=t' }:=
 I.write (x:=a) (e:=a) mu (.inl rfl) (fun b q hb z=>(hs.2 b hb).trans z) he new
theorem x2y{P:fw}{w:fx}{H':Hp}{h':Heap}{kvs:List (Key×V)}{vs:List (Key×Value)}(z:kvs.length≤sizeLine)(hd:(a==sysModules)=false)(rel:KV kvs vs)(dd:h'.DictOf (z1l P w) a vs):
  ObjOk P w H' h' a (.dK kvs):=⟨z,hd,vs,rel,dd⟩
theorem y8U{H':Hp}{Q:Unit->dw->Prop}(hu:A.units+1<fK)(I:Inv X pins σ H s)(g:DPut H a y v H')(ry:RelV y u)(rv:RelV v r)(h:∀s',Inv X pins σ H' s'->Q () s'):
  wpAny (model X.prog X.w) A (setItem (.ref a) u r) Q E s:=by
 rcases g with⟨kvs,k,e,ey,l,eH⟩ | ⟨kvs,k,b,e,ey,eb,l,eH⟩
 ·subst ey eH
  obtain⟨z,hd,vs,rel,dd⟩:=dk_of I.hok e
  have hz:vs.length≤sizeLine:=by rw[←rel.length];exact z
  have hl:(z8q kvs k v).length≤sizeLine:=by have:=z5b kvs k v;omega
  refine wpAny_setItem_pairs (hsz:=hz) (y6T ry) dd fun h' dd' hs=>h _ ?_
  have he:∃q,h'.get? a=some q:=let⟨q,_,_,hq,_⟩:=dd';⟨q,hq⟩
  exact y2i I (by rw[e];exact True.intro) hs he (x2y hl hd (rel.put k rv) dd')
 ·subst ey eH
  cases (show u=Value.ref b from ry)
  obtain⟨z,hd,xs,rel,dd⟩:=dt_of I.hok e
  have hz:xs.length≤sizeLine:=by rw[←Paired.length rel];exact z
  have hl:(z8q kvs k v).length≤sizeLine:=by have:=z5b kvs k v;omega
  refine wpAny_setItem_heap (hsz:=hz) (tupleKind_room_in1 hu) (y3A I.hok eb) dd fun h' dd' hs=>h _ ?_
  obtain⟨q,es,ep,hq,h2,h3,h4,_,h5⟩:=dd'
  refine y2i I (by rw[e];exact True.intro) hs ⟨q,hq⟩ ⟨hl,hd,_,(rel.put k eb rv).keeps fun c ys ec=>?_,q,es,ep,hq,h2,h3,h4,h5⟩
  rw[z0y (ne_of ec e (fun z=>nomatch z))]
  exact ec
end
section
end
def tDIn(ty td:TE):TE:=fun σ H Q=>ty σ H fun y H1=>td σ H1 fun x H2=>∃a o,x = .ref a∧DGet H2 a y o∧Q (.bl o.isSome) H2
def tDNotIn(ty td:TE):TE:=fun σ H Q=>ty σ H fun y H1=>td σ H1 fun x H2=>∃a o,x = .ref a∧DGet H2 a y o∧Q (.bl (!o.isSome)) H2
def sDPut(td ty tv:TE):TS:=fun D σ H=>tv σ H fun v H1=>td σ H1 fun x H2=>ty σ H2 fun y H3=>∃a H4,x = .ref a∧DPut H3 a y v H4∧D.nx σ H4
section
variable{X:Cx}{o i value:Expr}{pos pos':Pos}{td ty tv:TE}
theorem pc_din(hu:X.A.units+1<fK)(hi:PE X i ty)(ho:PE X o td):PC X .In i o (tDIn ty td):=by
 intro pins s σ H Q I h
 refine thn (hi pins s σ H _ I h) fun iv s1 ⟨y,H1,I1,ry,q1⟩=>thn (ho pins s1 σ H1 _ I1 q1) fun u s2 ⟨x,H2,I2,rx,a,ov,ex,g,q2⟩=>?_
 subst ex
 obtain rfl:u=Value.ref a:=rx
 exact d_in hu I2 g ry fun s3 I3=>⟨.bl ov.isSome,H2,I3,rfl,q2⟩
theorem y7I(hu:X.A.units+1<fK)(hi:PE X i ty)(ho:PE X o td):PC X .NotIn i o (tDNotIn ty td):=by
 intro pins s σ H Q I h
 refine thn (hi pins s σ H _ I h) fun iv s1 ⟨y,H1,I1,ry,q1⟩=>thn (ho pins s1 σ H1 _ I1 q1) fun u s2 ⟨x,H2,I2,rx,a,ov,ex,g,q2⟩=>?_
 subst ex
 obtain rfl:u=Value.ref a:=rx
 exact d_notIn hu I2 g ry fun s3 I3=>⟨.bl (!ov.isSome),H2,I3,rfl,q2⟩
theorem ps_dput(hu:X.A.units+1<fK)(ho:PE X o td)(hi:PE X i ty)(hv:PE X value tv)(hs:swapsWith value (some (.Subscript o i pos')) pos.line X.env=pure false):
  PS X (.Assign [.Subscript o i pos'] value pos) (sDPut td ty tv):=by
 intro pins s σ H D I h
 refine wpAny_Assign_Subscript (thn (hv pins s σ H _ I h) fun r s1 ⟨v,H1,I1,rv,q1⟩=>thn (ho pins s1 σ H1 _ I1 q1) fun u s2 ⟨x,H2,I2,rx,q2⟩=>thn (hi pins s2 σ H2 _ I2 q2) fun iv s3 ⟨y,H3,I3,ry,a,H4,ex,g,q3⟩=>?_) hs
 subst ex
 obtain rfl:u=Value.ref a:=rx
 exact y8U hu I3 g ry rv fun s4 I4=>⟨σ,H4,I4,q3⟩
end
theorem y3t{P:fw}{w:fx}{H:Hp}(h:Heap)(hb:sysModules<h.objs.size):ObjOk P w H (h.push { cls:=.type "dict",data:=.dict #[] }) h.objs.size (.dK []):=
 ⟨bn _,beq_eq_false_iff_ne.mpr (Ne.symm (aE hb)),[],.nil,Heap.DictOf.new h⟩
def tDNewK:TE:=fun _ H Q=>∀p,H p=none->Q (.ref p) (upd H p (.dK []))
section
variable{X:Cx}{pos:Pos}
theorem pe_dnewK:PE X (.Dict [] [] pos) tDNewK:=fun pins s σ H Q I h=>
 wpAny_Dict_empty ⟨.ref s.heap.objs.size,_,I.laid (a:=s.heap.objs.size) (o:=.dK []) (t':=s.toks) (fun _ _ q=>Heap.get?_push_of_some _ q) (ar _) (y3t s.heap I.big),rfl,h _ (I.hok.fresh (ar _))⟩
end
def y7P:List (TE×TE)->St->Hp->(List (V×V)->Hp->Prop)->Prop
 |[],_,H,Q=>Q [] H
 | (tk,tv)::r,σ,H,Q=>tk σ H fun x H1=>tv σ H1 fun y H2=>y7P r σ H2 fun ps H3=>Q ((x,y)::ps) H3
abbrev VV:List (V×V)->List (Value×Value)->Prop:=Paired fun p q=>RelV p.1 q.1∧RelV p.2 q.2
def PPs(X:Cx)(pos:Pos)(keys:List (Option Expr))(values:List Expr)(trs:List (TE×TE)):Prop:=
 ∀(pins:AO) (s:dw) (σ:St) (H:Hp) (Q:List (V×V)->Hp->Prop),Inv X pins σ H s->y7P trs σ H Q →
  wpAny (model X.prog X.w) X.A (evalPairs (pairTrees keys values X.env pos)) (fun vs s'=>∃ps H',Inv X pins σ H' s'∧VV ps vs∧Q ps H') X.xe s
theorem pps_nil{X:Cx}{pos:Pos}:PPs X pos [] [] []:=fun pins s σ H Q I h=>pairTrees_nil_walk ⟨[],H,I,.nil,h⟩
theorem x0N{X:Cx}{pos:Pos}{k v:Expr}{ks:List (Option Expr)}{vs:List Expr}{tk tv:TE}{trs:List (TE×TE)}(hk:PE X k tk)(hv:PE X v tv)(hr:PPs X pos ks vs trs):
  PPs X pos (some k::ks) (v::vs) ((tk,tv)::trs):=fun pins s σ H Q I h=>
 pairTrees_cons_walk (thn (hk pins s σ H _ I h) fun u s1 ⟨x,H1,I1,rx,q1⟩=>thn (hv pins s1 σ H1 _ I1 q1) fun w2 s2 ⟨y,H2,I2,ry,q2⟩=>
  thn (hr pins s2 σ H2 _ I2 q2) fun ws s3 ⟨ps,H3,I3,rel,q3⟩=>⟨(x,y)::ps,H3,I3,.cons ⟨rx,ry⟩ rel,q3⟩)
def y1j(kvs more:List (Key×V)):List (Key×V):=more.foldl (fun acc kv=>z8q acc kv.1 kv.2) kvs
theorem KV.merge:∀{more:List (Key×V)} {rs:List (Key×Value)} {kvs:List (Key×V)} {vs:List (Key×Value)},KV more rs->KV kvs vs->KV (y1j kvs more) (merged vs rs):=by
 intro more rs kvs vs r
 unfold KV at r
 induction r generalizing kvs vs with
 |nil=>intro q;exact q
 | @cons p q ps qs h t ih=>
  intro r0
  have e:KV (z8q kvs p.1 p.2) (stored vs q.1 q.2):=by
   have:=r0.put p.1 h.2
   rw[←h.1];exact this
  exact ih e
theorem z5O:∀(more kvs:List (Key×V)),(y1j kvs more).length≤kvs.length+more.length
 |[],kvs=>by show kvs.length≤kvs.length+0;omega
 |p::r,kvs=>by
  have h1:=z5O r (z8q kvs p.1 p.2)
  have h2:=z5b kvs p.1 p.2
  show(y1j (z8q kvs p.1 p.2) r).length≤_
  rw[bc];omega
theorem z8Q{P:fw}{w:fx}:∀{kvs:List (Key×V)} {ws:List (Value×Value)},VV (kvs.map fun kv=>(kV kv.1,kv.2)) ws->∃rs,Carries (z1l P w) ws rs∧KV kvs rs
 |[],_,r=>by rw[dJ]at r;cases r;exact⟨[],True.intro,.nil⟩
 |p::kvs,_,r=>by
  rw[aH]at r
  cases r with
  | @cons a b as bs h t=>
   obtain⟨rs,c,q⟩:=z8Q (P:=P) (w:=w) t
   obtain⟨b1,b2⟩:=b
   exact⟨(p.1,b2)::rs,⟨y6T h.1,rfl,c⟩,.cons ⟨rfl,h.2⟩ q⟩
def tDisp(trs:List (TE×TE)):TE:=fun σ H Q=>∀p,H p=none->y7P trs σ (upd H p (.dK [])) fun ps H2=>H2 p=some (.dK [])∧∃kvs:List (Key×V),ps=kvs.map (fun kv=>(kV kv.1,kv.2))∧kvs.length≤15∧Q (.ref p) (upd H2 p (.dK (y1j [] kvs)))
theorem pe_disp{X:Cx}{pos:Pos}{keys:List (Option Expr)}{values:List Expr}{trs:List (TE×TE)}(h:PPs X pos keys values trs)(hall:keys.all (·.isSome)=true)(hl:keys.length=values.length)(h0:keys≠[])
  (h15:keys.length≤15):PE X (.Dict keys values pos) (tDisp trs):=by
 intro pins s σ H Q I q
 have hn:=I.hok.fresh (ar s.heap.objs.size)
 have I1:=I.laid (a:=s.heap.objs.size) (o:=.dK []) (h':=s.heap.push { cls:=.type "dict",data:=.dict #[] }) (t':=s.toks) (fun _ _ q=>Heap.get?_push_of_some _ q) (ar _) (y3t s.heap I.big)
 refine wpAny_Dict_walk (knd:=z1l X.prog X.w) hall hl h0 h15 (thn (h pins _ σ _ _ I1 (q _ hn)) fun ws s2 ⟨ps,H2,I2,rel,e,kvs,ep,lk,q2⟩=>?_)
 subst ep
 obtain⟨rs,c,rk⟩:=z8Q (P:=X.prog) (w:=X.w) rel
 obtain⟨z,hd,vs0,r0,dd⟩:=dk_of I2.hok e
 cases r0
 refine⟨rs,c,dd,fun h' dd' hs=>⟨.ref s.heap.objs.size,_,?_,rfl,q2⟩⟩
 have hz:(y1j [] kvs).length≤sizeLine:=by
  have h1:=z5O kvs []
  rw[dZ]at h1
  rw[sizeLine_eq];omega
 have he:∃q,h'.get? s.heap.objs.size=some q:=let⟨q,_,_,hq,_⟩:=dd';⟨q,hq⟩
 exact y2i I2 (by rw[e];exact True.intro) hs he (x2y hz hd (rk.merge .nil) dd')
structure M1(X:Cx)(o:Expr)(m:Str)(apos:Pos)(e:Expr)(cpos:Pos):Prop where
 base:fG o m X.env (eval o X.env)=eval o X.env
 few:((fD cpos (starEach [e] X.env)).all (fun x=>!x.1)&&(backToKw cpos (keywordEach [] X.env)).all (fun x=>x.1.isSome)
  && decide (([e]:List Expr).length+([]:List fH).length+(if([]:List fH).isEmpty then 0 else 1)<30))=true
 line:(apos.endLine==cpos.line)=true
 trees:fD cpos (starEach [e] X.env)=[(false,eval e X.env)]
structure M2(X:Cx)(o:Expr)(m:Str)(apos:Pos)(e f:Expr)(cpos:Pos):Prop where
 base:fG o m X.env (eval o X.env)=eval o X.env
 few:((fD cpos (starEach [e,f] X.env)).all (fun x=>!x.1)&&(backToKw cpos (keywordEach [] X.env)).all (fun x=>x.1.isSome)
  && decide (([e,f]:List Expr).length+([]:List fH).length+(if([]:List fH).isEmpty then 0 else 1)<30))=true
 line:(apos.endLine==cpos.line)=true
 trees:fD cpos (starEach [e,f] X.env)=[(false,eval e X.env),(false,eval f X.env)]
section
end
section
end
section
end
section
end
def z2P(cells:List (Str×Addr)):List (Str×NameKind)->List (Str×Addr)->List (Str×Addr)
 |[],acc=>acc
 | (n,k)::r,acc=>if k == .free then z2P cells r ((n,(cells.lookup n).getD 0)::acc)else z2P cells r acc
theorem z7U{env:Env}(f:Str×NameKind->List (Str×Addr)->Sem (ForInStep (List (Str×Addr))))
  (hf:∀n k cs,f (n,k) cs=if k == .free then(do let a ←cellOf env n;pure (.yield ((n,a)::cs)))else pure (.yield cs)):
  ∀(names:List (Str×NameKind)) (acc:List (Str×Addr)),(∀n,(n,NameKind.free)∈names->∃c,env.cells.lookup n=some c)->forIn names acc f=pure (z2P env.cells names acc)
 |[],acc,_=>by rw[List.forIn_nil];rfl
 | (n,k)::r,acc,h=>by
  have hr:=z7U f hf r
  rw[List.forIn_cons,hf]
  unfold z2P
  by_cases hk:(k==NameKind.free)=true
  ·rw[if_pos hk,if_pos hk]
   have ek:k = .free:=eq_of_beq hk
   subst ek
   obtain⟨c,e⟩:=h n ac
   have e1:cellOf env n=pure c:=by unfold cellOf;rw[e]
   rw[e1,e]
   exact hr _ fun m hm=>h m (ae _ hm)
  ·rw[if_neg hk,if_neg hk]
   exact hr _ fun m hm=>h m (ae _ hm)
theorem z2s{scope:fI}{env:Env}(h:∀n,(n,NameKind.free)∈scope.names->∃c,env.cells.lookup n=some c):closureFor scope env=pure (z2P env.cells scope.names []):=by
 simp only[closureFor]
 rw[z7U _ (fun n k cs=>by cases hkc:k==NameKind.free <;> simp[hkc]) scope.names [] h]
 rfl
theorem z4a{cells:List (Str×Addr)}:∀(names:List (Str×NameKind)) (acc:List (Str×Addr)) {x:Str} {c:Addr},(x,c)∈z2P cells names acc->(x,c)∈acc∨((x,NameKind.free)∈names∧c=(cells.lookup x).getD 0)
 |[],_,_,_,h=>.inl h
 | (n,k)::r,acc,x,c,h=>by
  unfold z2P at h
  by_cases hk:(k==NameKind.free)=true
  ·rw[if_pos hk]at h
   have ek:k = .free:=eq_of_beq hk
   subst ek
   rcases z4a r _ h with z | ⟨z1,z2⟩
   ·rcases ai.mp z with q | q
    ·cases q
     exact .inr ⟨ac,rfl⟩
    ·exact .inl q
   ·exact .inr ⟨ae _ z1,z2⟩
  ·rw[if_neg hk]at h
   rcases z4a r _ h with z | ⟨z1,z2⟩
   ·exact .inl z
   ·exact .inr ⟨ae _ z1,z2⟩
theorem z2V{α:Type}{x:Str}{c:α}:∀{l:List (Str×α)},(x,c)∈l->(l.lookup x).isSome=true
 | (n,d)::r,h=>by
  rw[cB]
  cases hb:x==n with
  |true=>rfl
  |false=>
   rcases ai.mp h with q | q
   ·cases q
    simp at hb
   ·exact z2V q
theorem z7F{cells:List (Str×Addr)}{x:Str}:∀(names:List (Str×NameKind)) (acc:List (Str×Addr)),(x,NameKind.free)∈names∨(∃c,(x,c)∈acc)->∃c,(x,c)∈z2P cells names acc
 |[],_,h=>h.elim (fun z=>nomatch z) id
 | (n,k)::r,acc,h=>by
  unfold z2P
  by_cases hk:(k==NameKind.free)=true
  ·rw[if_pos hk]
   refine z7F r _ ?_
   rcases h with z | ⟨c,z⟩
   ·rcases ai.mp z with q | q
    ·cases q
     exact .inr ⟨_,ac⟩
    ·exact .inl q
   ·exact .inr ⟨c,ae _ z⟩
  ·rw[if_neg hk]
   refine z7F r _ ?_
   rcases h with z | z
   ·rcases ai.mp z with q | q
    ·cases q
     exact absurd (by rfl) hk
    ·exact .inl q
   ·exact .inr z
theorem z3K:∀(names:List (Str×NameKind)) (h:Heap) (acc:List (Str×Addr)) {x:Str} {c:Addr},(x,c)∈cellsFrom h.objs.size names acc →
  (x,c)∈acc∨((x,NameKind.cell)∈names∧h.objs.size≤c∧(pushCells h names).IsCell c none)
 |[],_,_,_,_,hm=>.inl hm
 | (n,k)::r,h,acc,x,c,hm=>by
  unfold cellsFrom at hm
  unfold pushCells
  by_cases hk:(k==NameKind.cell)=true
  ·rw[if_pos hk]at hm
   rw[if_pos hk]
   have ek:k = .cell:=eq_of_beq hk
   subst ek
   have e:(h.push { cls:=.type "cell",data:=.cell none }).objs.size=h.objs.size+1:=Heap.size_push ..
   rw[←e]at hm
   rcases z3K r _ _ hm with z | ⟨z1,z2,z3⟩
   ·rcases ai.mp z with q | q
    ·cases q
     exact .inr ⟨ac,ar _,⟨_,pushCells_keeps r _ _ _ (Heap.get?_push_size _ rfl),rfl⟩⟩
    ·exact .inl q
   ·exact .inr ⟨ae _ z1,by omega,z3⟩
  ·rw[if_neg hk]at hm
   rw[if_neg hk]
   rcases z3K r h acc hm with z | ⟨z1,z2,z3⟩
   ·exact .inl z
   ·exact .inr ⟨ae _ z1,z2,z3⟩
theorem z3F{x:Str}:∀(names:List (Str×NameKind)) (n:Nat) (acc:List (Str×Addr)),(x,NameKind.cell)∈names∨(∃c,(x,c)∈acc)->∃c,(x,c)∈cellsFrom n names acc
 |[],_,_,h=>h.elim (fun z=>nomatch z) id
 | (y,k)::r,n,acc,h=>by
  unfold cellsFrom
  by_cases hk:(k==NameKind.cell)=true
  ·rw[if_pos hk]
   refine z3F r _ _ ?_
   rcases h with z | ⟨c,z⟩
   ·rcases ai.mp z with q | q
    ·cases q
     exact .inr ⟨_,ac⟩
    ·exact .inl q
   ·exact .inr ⟨c,ae _ z⟩
  ·rw[if_neg hk]
   refine z3F r _ _ ?_
   rcases h with z | z
   ·rcases ai.mp z with q | q
    ·cases q
     exact absurd (by rfl) hk
    ·exact .inl q
   ·exact .inr z
theorem z3M(lo:Nat):∀(names:List (Str×NameKind)) (n:Nat) (acc:List (Str×Addr)),(∀x y c,(x,c)∈acc->(y,c)∈acc->lo≤c->x=y)->(∀p∈acc,p.2<n) →
  ∀x y c,(x,c)∈cellsFrom n names acc->(y,c)∈cellsFrom n names acc->lo≤c->x=y
 |[],_,_,h,_=>h
 | (m,k)::r,n,acc,h,hb=>by
  unfold cellsFrom
  by_cases hk:(k==NameKind.cell)=true
  ·rw[if_pos hk]
   refine z3M lo r (n+1) ((m,n)::acc) (fun x y c hx hy hc=>?_) fun p hp=>?_
   ·rcases ai.mp hx with q | q <;> rcases ai.mp hy with q' | q'
    ·cases q;cases q';rfl
    ·cases q
     exact absurd (hb _ q') (bw _)
    ·cases q'
     exact absurd (hb _ q) (bw _)
    ·exact h x y c q q' hc
   ·rcases ai.mp hp with q | q
    ·cases q;exact dW _
    ·exact ck (hb p q)
  ·rw[if_neg hk]
   exact z3M lo r n acc h hb
theorem z4W(env:Env)(x:Str):∀names:List (Str×NameKind),
  (names.map fun(n,k)=>if(k==NameKind.free&&env.scope.kind == .function&&env.kindOf n==some .cell)then(n,NameKind.cell)else(n,k)).lookup x =
   (names.lookup x).map fun k=>if(k==NameKind.free&&env.scope.kind == .function&&env.kindOf x==some .cell)then NameKind.cell else k
 |[]=>rfl
 | (n,k)::r=>by
  have ih:=z4W env x r
  show List.lookup x ((if(k==NameKind.free&&env.scope.kind == .function&&env.kindOf n==some .cell)=true then(n,NameKind.cell)else(n,k))::_)=_
  cases hx:x==n with
  |true=>
   have e:=eq_of_beq hx
   subst e
   by_cases hc:(k==NameKind.free&&env.scope.kind == .function&&env.kindOf x==some .cell)=true
   ·rw[if_pos hc]
    simp only[cB,beq_self_eq_true,bQ,hc,if_true]
   ·rw[if_neg hc]
    simp only[cB,beq_self_eq_true,bQ]
    rw[if_neg hc]
  |false=>
   by_cases hc:(k==NameKind.free&&env.scope.kind == .function&&env.kindOf n==some .cell)=true
   ·rw[if_pos hc];simp only[cB,hx];exact ih
   ·rw[if_neg hc];simp only[cB,hx];exact ih
theorem z3b{M:Model}{A:Around}{E:Value->dw->Prop}{s:dw}{scope:fI}{globals:Addr}{closure:List (Str×Addr)}{qual:Str}{env:Env}{Q:Env->dw->Prop}
  (hQ:Q (newEnv scope s.heap.objs.size globals (cellsFrom (s.heap.objs.size+1) scope.names closure) qual none .none (some env) builtinsNs)
   { s with heap:=pushCells (s.heap.push { cls:=.type "dict",data:=.dict #[] }) scope.names }):
  wpAny M A (newFunctionEnv scope globals closure [] qual none .none (some env)) Q E s:=by
 simp only[newFunctionEnv,eY,if_true]
 refine wpAny_bind (wpAny_alloc ?_)
 refine wpAny_bind (wpAny_layCells _ (fun name kind cells=>by cases hkc:kind==NameKind.cell <;> simp[hkc]) _ _ _ _ ?_)
 rw[show({ s with heap:=s.heap.push { cls:=.type "dict",data:=.dict #[] } }:dw).heap.objs.size=s.heap.objs.size+1 from Heap.size_push ..]
 refine wpAny_bind ?_
 rw[List.forIn_nil]
 exact wpAny_pure (wpAny_pure hQ)
def capOk(out names:List (Str×NameKind)):Bool:=names.all fun p=>!(decide (p.2=NameKind.free))||(decide (out.lookup p.1=some NameKind.cell)||decide (out.lookup p.1=some NameKind.free))
def nmOk(N N':List Str)(names:List (Str×NameKind)):Bool:=(ah N.length).all fun i=>match N'[i]? with
 |some y=>decide (names.lookup y=none)||(decide (names.lookup y=some NameKind.free)&&decide (N[i]? = some y))
 |none=>false
structure CompScope(N:List Str)(out:List (Str×NameKind))(N':List Str)(k:Nat)(sc:fI):Prop where
 kind:sc.kind = .function
 len:N'.length=N.length+k
 cap:capOk out sc.names=true
 nm:nmOk N N' sc.names=true
 uniq:sc.names.all (fun p=>decide (sc.names.lookup p.1=some p.2))=true
def z0A(X:Cx)(N':List Str)(sc:fI)(s:dw)(H:Hp)(fp:List Addr)(pins:AO)(E:Value->dw->Prop):Cx where
 prog:=X.prog
 w:=X.w
 K:=X.K
 mg:=X.mg
 base:=X.base
 A:=X.A
 N:=N'
 s₀:=s
 H₀:=H
 env:=compEnvC sc (cellsFrom (s.heap.objs.size+1) sc.names (z2P X.env.cells sc.names [])) s.heap.objs.size X.env
 outer:=X.stack
 stack:=X.stack
 ex:=fp
 fn:=fun x=>decide (sc.names.lookup x=some .cell)
 calm:=X.calm
 pn:=X.pn++pins
 xe:=E
section
variable{X:Cx}{N':List Str}{k:Nat}{sc:fI}{pins:AO}{σ:St}{H:Hp}{s:dw}{fp:List Addr}{E:Value->dw->Prop}
theorem CompScope.fr(S:CompScope X.N X.env.scope.names N' k sc){x:Str}(h:(x,NameKind.free)∈sc.names):X.env.kindOf x=some .cell∨X.env.kindOf x=some .free:=by
 have q:=az.mp S.cap _ h
 simp at q
 exact q
theorem CompScope.look{N:List Str}{out:List (Str×NameKind)}(S:CompScope N out N' k sc){x:Str}{kd:NameKind}(h:(x,kd)∈sc.names):sc.names.lookup x=some kd:=by
 have q:=az.mp S.uniq _ h
 exact of_decide_eq_true q
theorem x2s(S:CompScope X.N X.env.scope.names N' k sc)(I:Inv X pins σ H s)(hf:∀b∈fp,y0B X pins H b)(hlt:∀b∈fp,b<s.heap.objs.size):
  Inv (z0A X N' sc s H fp pins E) [] (σ++ad k none) H { s with heap:=pushCells (s.heap.push { cls:=.type "dict",data:=.dict #[] }) sc.names }:=by
 have keeps:∀b o,s.heap.get? b=some o->(pushCells (s.heap.push { cls:=.type "dict",data:=.dict #[] }) sc.names).get? b=some o:=fun b o e=>pushCells_keeps _ _ _ _ (Heap.get?_push_of_some _ e)
 have hsz:(s.heap.push { cls:=.type "dict",data:=.dict #[] }).objs.size=s.heap.objs.size+1:=Heap.size_push ..
 have hns:(pushCells (s.heap.push { cls:=.type "dict",data:=.dict #[] }) sc.names).Ns s.heap.objs.size (fun _=>none):=(Heap.Ns.new s.heap (.type "dict")).keeps (pushCells_keeps _ _)
 have frc:∀x,(x,NameKind.free)∈sc.names->∃c,X.env.cells.lookup x=some c:=fun x h=>I.ok.has x (S.fr h)
 have cm:∀x c,(x,c)∈cellsFrom (s.heap.objs.size+1) sc.names (z2P X.env.cells sc.names []) →
   ((x,NameKind.cell)∈sc.names∧s.heap.objs.size+1≤c∧(pushCells (s.heap.push { cls:=.type "dict",data:=.dict #[] }) sc.names).IsCell c none)∨((x,NameKind.free)∈sc.names∧X.env.cells.lookup x=some c):=fun x c h=>by
  rw[←hsz]at h
  rcases z3K _ _ _ h with z | ⟨z1,z2,z3⟩
  ·rcases z4a _ _ z with z | ⟨z1,z2⟩
   ·exact nomatch z
   ·obtain⟨c',e⟩:=frc x z1
    rw[e]at z2
    cases z2
    exact .inr ⟨z1,e⟩
  ·exact .inl ⟨z1,by omega,z3⟩
 have cl:∀x c,(cellsFrom (s.heap.objs.size+1) sc.names (z2P X.env.cells sc.names [])).lookup x=some c->(x,c)∈cellsFrom (s.heap.objs.size+1) sc.names (z2P X.env.cells sc.names []):=fun x c h=>PySem.mem_of_lookup h
 have clt:∀x c,X.env.cells.lookup x=some c->c<s.heap.objs.size:=fun x c h=>by
  obtain⟨v,q⟩:=I.cell x c h
  exact q.lt
 have has:∀x,(x,NameKind.cell)∈sc.names∨(x,NameKind.free)∈sc.names->∃c,(cellsFrom (s.heap.objs.size+1) sc.names (z2P X.env.cells sc.names [])).lookup x=some c:=fun x h=>by
  obtain⟨c,hc⟩:=z3F (x:=x) sc.names (s.heap.objs.size+1) (z2P X.env.cells sc.names []) (h.imp id fun z=>z7F _ _ (.inl z))
  exact cL.mp (z2V hc)
 have kd:∀x kk,(relabel sc X.env).names.lookup x=some kk->∃k0,sc.names.lookup x=some k0∧(kk=k0∨(k0 = .free∧kk = .cell)):=fun x kk h=>by
  have q:=z4W X.env x sc.names
  have h':(sc.names.map fun(n,k)=>if(k==NameKind.free&&X.env.scope.kind == .function&&X.env.kindOf n==some .cell)then(n,NameKind.cell)else(n,k)).lookup x=some kk:=h
  rw[q]at h'
  cases e:sc.names.lookup x with
  |none=>rw[e]at h';cases h'
  |some k0=>
   rw[e]at h'
   simp only[bQ,Option.some.injEq]at h'
   refine⟨k0,rfl,?_⟩
   split at h'
   ·rename_i hc
    simp at hc
    exact .inr ⟨hc.1.1,h'.symm⟩
   ·exact .inl h'.symm
 refine⟨⟨I.ok.mod,S.kind,I.ok.glob,I.ok.blt,ar _,?inj,?has,?cab,I.ok.hd,I.ok.frames,.inl rfl,?exf,I.bs,aI I.ok.bsz I.sz,?noex,?exfs,I.stack,I.stkFree⟩,
  rfl,I.bare,Un.kept keeps,⟨_,hns,?loc⟩,?cell,I.hok.fresh (ar _),?freeC,?pin,I.hok.kept keeps,?len⟩
 case inj=>
  intro x y c h1 h2
  rcases cm x c (cl x c h1)with⟨_,l1,_⟩ | ⟨m1,e1⟩
  ·rcases cm y c (cl y c h2)with⟨_,l2,_⟩ | ⟨m2,e2⟩
   ·refine z3M (s.heap.objs.size+1) sc.names (s.heap.objs.size+1) (z2P X.env.cells sc.names []) (fun x y c hx _ hc=>?_) (fun p hp=>?_) x y c (cl x c h1) (cl y c h2) l1
    ·rcases z4a _ _ hx with z | ⟨z1,z2⟩
     ·exact nomatch z
     ·obtain⟨c',e⟩:=frc x z1
      rw[e]at z2
      have z3:c=c':=z2
      subst z3
      exact absurd (clt x c e) (eE.mpr (bX hc))
    ·obtain⟨x,c⟩:=p
     rcases z4a _ _ hp with z | ⟨z1,z2⟩
     ·exact nomatch z
     ·obtain⟨c',e⟩:=frc x z1
      rw[e]at z2
      have z3:c=c':=z2
      subst z3
      exact ck (clt x c e)
   ·exact absurd (clt y c e2) (eE.mpr (bX l1))
  ·rcases cm y c (cl y c h2)with⟨_,l2,_⟩ | ⟨m2,e2⟩
   ·exact absurd (clt x c e1) (eE.mpr (bX l2))
   ·exact I.ok.inj x y c e1 e2
 case has=>
  intro x hx
  refine has x ?_
  rcases hx with hx | hx
  ·obtain⟨k0,e,h⟩:=kd x _ hx
   rcases h with h | ⟨h,_⟩
   ·subst h;exact .inl (PySem.mem_of_lookup e)
   ·subst h;exact .inr (PySem.mem_of_lookup e)
  ·obtain⟨k0,e,h⟩:=kd x _ hx
   rcases h with h | ⟨_,h⟩
   ·subst h;exact .inr (PySem.mem_of_lookup e)
   ·cases h
 case cab=>
  intro x c hfn h
  have hfn':sc.names.lookup x=some NameKind.cell:=of_decide_eq_true hfn
  rcases cm x c (cl x c h)with⟨_,l,_⟩ | ⟨m,_⟩
  ·exact bX l
  ·rw[S.look m]at hfn';cases hfn'
 case exf=>
  intro b hb
  refine⟨aE (hlt b hb),fun x c h=>?_⟩
  rcases cm x c (cl x c h)with⟨_,l,_⟩ | ⟨_,e⟩
  ·intro z
   subst z
   exact absurd (hlt c hb) (eE.mpr (bX l))
  ·exact(hf b hb).2.2.2.2.1 x c e
 case noex=>
  intro b o e hb
  rcases (hf b hb).2.2.2.1 with z | z
  ·exact I.ok.noex b o e z
  ·exact absurd (aK (Heap.lt_size e) (aI I.ok.bsz z)) (bw _)
 case exfs=>exact fun b hb z=>(ai.mp (I.stkSub b z)).elim (hf b hb).2.1 (hf b hb).2.2.1
 case loc=>
  intro i y v h1 h2 h3
  have hl:=I.len
  by_cases hi:i<σ.length
  ·rw[aZ hi]at h2
   have q:=az.mp S.nm i (ak.mpr ⋯)
   have h1':N'[i]? = some y:=h1
   simp only[h1',Bool.or_eq_true,aJ,decide_eq_true_eq]at q
   rcases q with q | ⟨q1,q2⟩
   ·exfalso
    rcases h3 with z | z | z <;> (obtain⟨k0,e,_⟩:=kd y _ z;rw[q]at e;cases e)
   ·have hm:=PySem.mem_of_lookup q1
    obtain⟨m,hn,hloc⟩:=I.loc
    have kk:=S.fr hm
    obtain⟨u,r,l⟩:=hloc i y v q2 h2 (kk.elim (fun z=>.inr (.inl z)) fun z=>.inr (.inr z))
    refine⟨u,r,.inr ⟨?_,?_⟩⟩
    ·rcases h3 with z | z | z
     ·obtain⟨k0,e,h⟩:=kd y _ z
      rw[q1]at e
      cases e
      rcases h with h | ⟨_,h⟩ <;> cases h
     ·exact .inl z
     ·exact .inr z
    ·rcases l with⟨l,_⟩ | ⟨_,c,ec,hc⟩
     ·rcases kk with z | z <;> (rw[z]at l;cases l)
     ·obtain⟨c',e'⟩:=has y (.inr hm)
      refine⟨c',e',?_⟩
      rcases cm y c' (cl y c' e')with⟨m',_⟩ | ⟨_,e2⟩
      ·have:=S.look m'
       rw[q1]at this
       cases this
      ·rw[ec]at e2
       cases e2
       exact hc.keeps keeps
  ·rw[bh ⋯,bq]at h2
   split at h2 <;> cases h2
 case cell=>
  intro x c h
  rcases cm x c (cl x c h)with⟨_,_,q⟩ | ⟨_,e⟩
  ·exact⟨_,q⟩
  ·obtain⟨v,q⟩:=I.cell x c e
   exact⟨v,q.keeps keeps⟩
 case freeC=>
  intro x c h
  rcases cm x c (cl x c h)with⟨_,l,_⟩ | ⟨_,e⟩
  ·exact I.hok.fresh (bX l)
  ·exact I.freeC x c e
 case pin=>
  intro p hp
  have hp':p∈X.pn++pins:=by
   rcases au.mp hp with z | z
   ·exact z
   ·exact nomatch z
  obtain⟨e,n,ne,nf,d⟩:=I.pin p hp'
  exact⟨keeps _ _ e,n,aE (Heap.lt_size e),fun z=>(ai.mp (I.stkSub p.1 z)).elim ne nf,d⟩
 case len=>
  show _=N'.length
  rw[aB,eU,S.len,I.len]
theorem z5K{σ':St}{H':Hp}{s':dw}(I:Inv X pins σ H s)(hf:∀b∈fp,y0B X pins H b)(J:Inv (z0A X N' sc s H fp pins E) [] σ' H' s'):Inv X pins σ H' s':=
 I.call' J.os J.base J.hok J.bare fun b hb=>⟨(hf b hb).2.2.2.1,(hf b hb).2.1,(hf b hb).2.2.2.2.1,(hf b hb).2.2.2.2.2⟩
theorem y0Y{H':Hp}{s':dw}{h':Heap}(I:Inv X pins σ H s)(J:Inv X pins σ H' s')(hn:H' s.heap.objs.size=none)(hb:Heap.SameBut s.heap.objs.size s'.heap h'):Inv X pins σ H' { s' with heap:=h' }:=by
 refine J.turned (t':=s'.toks) (it:=s.heap.objs.size) (fun b o hne e=>(hb.2 b hne).trans e) hn (b7 I.lt) (.inr I.sz) (fun x c e=>?_) fun p hp=>?_
 ·obtain⟨v,q⟩:=I.cell x c e
  exact aE q.lt
 ·exact aE (Heap.lt_size (I.pin p hp).1)
end
theorem y1p{prog:fw}{w:fx}{A:Around}{R:Result->dw->Prop}{s:dw}{elt target iter:Expr}{ifs:List Expr}{scope:fI}{pos:Pos}{it acc:Value}{env:Env}(I:Nat->dw->Prop)
  (turn:∀n s,I n s->wpAny (model prog w) A (pyNext it) (fun r s₁=>match r with
   |none=>R (.ok .next) s₁
   |some v=>wpAny (model prog w) A (letOwnedTupleGo target it v) (fun _ s₁'=>wpAny (model prog w) A (fF target env v) (fun _ s₂=>
     wpAny (model prog w) A (forIn ifs true fun c r=>if r=true then do let ok ←isTrue c env (eval c env);pure (ForInStep.yield ok)else pure (ForInStep.yield r)) (fun ok s₃=>
      if ok=true then wpAny (model prog w) A (eval elt env) (fun x s₄=>
       wpAny (model prog w) A (call (.builtin "list.append") [acc,x]) (fun _ s₅=>∃m,m<n∧I m s₅) (notedBy (model prog w) A env fun e s'=>R (.error e) s') s₄) (notedBy (model prog w) A env fun e s'=>R (.error e) s') s₃
      else ∃m,m<n∧I m s₃) (notedBy (model prog w) A env fun e s'=>R (.error e) s') s₂) (notedBy (model prog w) A env fun e s'=>R (.error e) s') s₁') (notedBy (model prog w) A env fun e s'=>R (.error e) s') s₁) (notedBy (model prog w) A env fun e s'=>R (.error e) s') s)
  (n:Nat) (h:I n s):
  codeAny (model prog w) A (.compLoop (.ListComp elt [⟨target,iter,ifs,0⟩] scope pos) 0 it acc env) R s:=by
 refine codeAny_loop rfl I (fun n s hI=>?_) n h
 show wpAny _ A ((compTurn (.ListComp elt [⟨target,iter,ifs,0⟩] scope pos) 0 it acc env).onRaise (fun x=>do noteFrame x env;theTreesLotGoes x)) _ _ s
 refine wpAny_noted ?_
 rw[compTurn_list]
 refine wpAny_bind (wpAny_standAt (wpAny_bind (wpAny_mono (turn n s hI) (fun r s₁ h₁=>?_) fun _ _ h'=>h')))
 cases r with
 |none=>exact wpAny_pure h₁
 |some v=>
  refine wpAny_bind (wpAny_mono h₁ (fun _ s₁' h₁'=>?_) fun _ _ h'=>h')
  refine wpAny_bind (wpAny_mono h₁' (fun _ s₂ h₂=>wpAny_bind (wpAny_mono h₂ (fun ok s₃ h₃=>?_) fun _ _ h'=>h')) fun _ _ h'=>h')
  cases ok with
  |false=>exact wpAny_pure ⟨rfl,h₃⟩
  |true=>
   exact wpAny_bind (wpAny_bind (wpAny_mono h₃ (fun x s₄ h₄=>wpAny_bind (wpAny_mono h₄ (fun _ s₅ h₅=>wpAny_pure (wpAny_pure ⟨rfl,h₅⟩)) fun _ _ h'=>h')) fun _ _ h'=>h'))
def y6e(X:Cx)(ifs:List Expr)(t:TT):Prop:=
 ∀(pins:AO) (s:dw) (σ:St) (H:Hp) (Q:Bool->Hp->Prop),Inv X pins σ H s->t σ H Q →
  wpAny (model X.prog X.w) X.A (forIn ifs true fun c r=>if r=true then do let ok ←isTrue c X.env (eval c X.env);pure (ForInStep.yield ok)else pure (ForInStep.yield r)) (TP X pins σ Q) X.xe s
def tYes:TT:=fun _ H Q=>Q true H
theorem x1Q{X:Cx}:y6e X [] tYes:=fun _ _ _ H _ I h=>wpAny_tests_nil ⟨H,I,h⟩
theorem x0D{X:Cx}{c:Expr}{t:TT}(h:PT X c t):y6e X [c] t:=fun pins s σ H Q I hw=>wpAny_tests_one (h pins s σ H Q I hw)
def y5Y(wi:TI)(g:TG)(tc:TT)(te:TE)(k:Nat):TE:=fun σ H Q=>wi σ H fun J H1=>∀D,H1 D=none →
 ∃W:Nat->Nat->St->Hp->Prop,(∃m,W 0 m (σ++ad k none) (upd H1 D (.lst [])))∧∀i m σ' H',W i m σ' H' →
  (J.stop i H'∧Q (.ref D) H')∨(J.go i H'∧∃N:St->Hp->Prop,(∀σ'' H'',N σ'' H''->∃m',m'<m∧W (i+1) m' σ'' H'') ∧
   ∀x H2,J.yld i H' x H2->g x σ' H2 fun σ2 H3=>tc σ2 H3 fun b H4=>if b=true then te σ2 H4 fun y H5=>∃ys,H5 D=some (.lst ys)∧ys.length<sizeLine∧N σ2 (upd H5 D (.lst (ys++[y])))else N σ2 H4)
structure PComp(X:Cx)(N':List Str)(sc:fI)(tg:Expr)(ifs:List Expr)(elt:Expr)(g:TG)(tc:TT)(te:TE):Prop where
 pg:∀s H fp pins E,PG (z0A X N' sc s H fp pins E) tg g
 pt:∀s H fp pins E,y6e (z0A X N' sc s H fp pins E) ifs tc
 pe:∀s H fp pins E,PE (z0A X N' sc s H fp pins E) elt te
section
variable{X:Cx}{N':List Str}{k:Nat}{sc:fI}{tg iter elt:Expr}{ifs:List Expr}{pos:Pos}{g:TG}{tc:TT}{te:TE}{wi:TI}
theorem z5Y{pins:AO}{σ:St}{H:Hp}{s:dw}{J:It}{fp:List Addr}{it:Addr}{tn:Nat->Heap->Prop}{Q:VK}{E:Value->dw->Prop}{RR:Value->Addr->Result->dw->Prop}
  (hc:X.calm=true) (S:CompScope X.N X.env.scope.names N' k sc) {PC:dw->Hp->(Value->dw->Prop)->Prop} (P:∀s H E,PC s H E->PG (z0A X N' sc s H fp pins E) tg g∧y6e (z0A X N' sc s H fp pins E) ifs tc∧PE (z0A X N' sc s H fp pins E) elt te)
  (hP:∀D s3 H3,Inv X pins σ H3 s3->(∀b∈fp,y0B X pins H3 b)->PC s3 H3 (notedBy (model X.prog X.w) X.A (compEnvC sc (cellsFrom (s3.heap.objs.size+1) sc.names (z2P X.env.cells sc.names [])) s3.heap.objs.size X.env) fun e s'=>RR (.ref D) s3.heap.objs.size (.error e) s')) (I:Inv X pins σ H s) (T:Turn X.prog X.w X.K tg J fp it tn) (st:tn 0 s.heap) (hf:∀b∈fp,y0B X pins H b)
  (hW:∀D,H D=none->∃W:Nat->Nat->St->Hp->Prop,(∃m,W 0 m (σ++ad k none) (upd H D (.lst [])))∧∀i m σ' H',W i m σ' H' →
   (J.stop i H'∧Q (.ref D) H')∨(J.go i H'∧∃N:St->Hp->Prop,(∀σ'' H'',N σ'' H''->∃m',m'<m∧W (i+1) m' σ'' H'') ∧
    ∀x H2,J.yld i H' x H2->g x σ' H2 fun σ2 H3=>tc σ2 H3 fun b H4=>if b=true then te σ2 H4 fun y H5=>∃ys,H5 D=some (.lst ys)∧ys.length<sizeLine∧N σ2 (upd H5 D (.lst (ys++[y])))else N σ2 H4))
  (hR:∀D s3 H3 σ' H' s' E',Inv X pins σ H3 s3->(∀b∈fp,y0B X pins H3 b)->Inv (z0A X N' sc s3 H3 fp pins E') [] σ' H' s'->Q (.ref D) H'->RR (.ref D) s3.heap.objs.size (.ok .next) s'):
  wpAny (model X.prog X.w) X.A (newList []) (fun acc s₃=>wpAny (model X.prog X.w) X.A (newFunctionEnv sc X.env.globals (z2P X.env.cells sc.names []) [] X.env.qual none .none (some X.env)) (fun cenv s₄=>
   codeAny (model X.prog X.w) X.A (.compStart (.ListComp elt [⟨tg,iter,ifs,0⟩] sc pos) 0 (.ref it) acc { cenv with scope:=relabel sc X.env }) (RR acc cenv.locals) s₄) E s₃) E s:=by
 obtain⟨W,⟨m0,w0⟩,step⟩:=hW s.heap.objs.size (I.hok.fresh (ar _))
 have I3:Inv X pins σ (upd H s.heap.objs.size (.lst [])) { s with heap:=s.heap.push { cls:=.type "list",data:=.seq ([]:List Value).toArray },toks:=s.toks }:=I.lnew (t':=s.toks) .nil (bn _)
 have lt0:∀b∈fp,b<s.heap.objs.size:=fun b hb=>by
  obtain⟨o,e,_⟩:=T.obj 0 _ st b hb
  exact Heap.lt_size e
 have hf3:∀b∈fp,y0B X pins (upd H s.heap.objs.size (.lst [])) b:=fun b hb=>⟨by rw[z0y (aE (lt0 b hb))];exact(hf b hb).1,(hf b hb).2⟩
 have lt3:∀b∈fp,b<(s.heap.push { cls:=.type "list",data:=.seq ([]:List Value).toArray }).objs.size:=fun b hb=>by
  rw[Heap.size_push]
  exact ck (lt0 b hb)
 refine wpAny_newObj_type (z3b ?_)
 generalize hs3:({ s with heap:=s.heap.push { cls:=.type "list",data:=.seq ([]:List Value).toArray },toks:=s.toks }:dw)=s3 at I3
 have hsh:s3.heap=s.heap.push { cls:=.type "list",data:=.seq ([]:List Value).toArray }:=by rw[←hs3]
 rw[←hsh]at lt3
 have st3:tn 0 s3.heap:=T.keep _ _ _ st fun b _ o e=>by rw[hsh];exact Heap.get?_push_of_some _ e
 show codeAny _ _ (.compStart _ 0 (.ref it) (.ref s.heap.objs.size) (compEnvC sc (cellsFrom (s3.heap.objs.size+1) sc.names (z2P X.env.cells sc.names [])) s3.heap.objs.size X.env)) (RR (.ref s.heap.objs.size) s3.heap.objs.size)
  { s3 with heap:=pushCells (s3.heap.push { cls:=.type "dict",data:=.dict #[] }) sc.names }
 generalize hD:s.heap.objs.size=D at *
 generalize hEn:(notedBy (model X.prog X.w) X.A (compEnvC sc (cellsFrom (s3.heap.objs.size+1) sc.names (z2P X.env.cells sc.names [])) s3.heap.objs.size X.env) fun e s'=>RR (.ref D) s3.heap.objs.size (.error e) s')=En
 have I4:Inv (z0A X N' sc s3 (upd H D (.lst [])) fp pins En) [] (σ++ad k none) (upd H D (.lst [])) { s3 with heap:=pushCells (s3.heap.push { cls:=.type "dict",data:=.dict #[] }) sc.names }:=x2s S I3 hf3 lt3
 have st4:tn 0 (pushCells (s3.heap.push { cls:=.type "dict",data:=.dict #[] }) sc.names):=T.keep _ _ _ st3 fun b _ o e=>pushCells_keeps _ _ _ _ (Heap.get?_push_of_some _ e)
 have stat:∀{H':Hp},(∀b∈fp,H' b=none)->∀b∈fp,y0B (z0A X N' sc s3 (upd H D (.lst [])) fp pins En) [] H' b:=fun hn b hb=>
  ⟨hn b hb,(I4.ok.exf b hb).1,I4.ok.exfs b hb,.inl hb,(I4.ok.exf b hb).2,fun p hp=>(hf3 b hb).2.2.2.2.2 p (by
   rcases au.mp hp with z | z
   ·exact z
   ·exact nomatch z)⟩
 obtain⟨Pg,Pt,Pe⟩:=P s3 (upd H D (.lst [])) En (by rw[←hEn];exact hP D s3 _ I3 hf3)
 have loop:codeAny (model X.prog X.w) X.A (.compLoop (.ListComp elt [⟨tg,iter,ifs,0⟩] sc pos) 0 (.ref it) (.ref D) (z0A X N' sc s3 (upd H D (.lst [])) fp pins En).env) (RR (.ref D) s3.heap.objs.size)
   { s3 with heap:=pushCells (s3.heap.push { cls:=.type "dict",data:=.dict #[] }) sc.names }:=by
  refine y1p (fun n s'=>∃i σ' H',Inv (z0A X N' sc s3 (upd H D (.lst [])) fp pins En) [] σ' H' s'∧tn i s'.heap∧(∀b∈fp,H' b=none)∧W i n σ' H') ?_ m0 ⟨0,_,_,I4,st4,fun b hb=>(hf3 b hb).1,w0⟩
  have eEn:(notedBy (model X.prog X.w) X.A (z0A X N' sc s3 (upd H D (.lst [])) fp pins En).env fun e s'=>RR (.ref D) s3.heap.objs.size (.error e) s')=En:=hEn
  rw[eEn]
  rintro n s5 ⟨i,σ5,H5,I5,st5,fr5,w5⟩
  rcases step i n σ5 H5 w5 with⟨stop,qn⟩ | ⟨go,N,hN,turn⟩
  ·refine thn (T.done (z0A X N' sc s3 (upd H D (.lst [])) fp pins En) rfl rfl rfl hc i [] s5 σ5 H5 En I5 (stat fr5) st5 stop) fun r s6 ⟨hr,I6⟩=>?_
   subst hr
   exact hR D s3 _ σ5 H5 s6 En I3 hf3 I6 qn
  ·refine thn (T.item (z0A X N' sc s3 (upd H D (.lst [])) fp pins En) rfl rfl rfl hc i [] s5 σ5 H5 En I5 (stat fr5) st5 go) fun r s6 ⟨u,hr,h6⟩=>?_
   subst hr
   refine thn h6 fun _ s7 ⟨x,H7,I7,r7,y7,st7,fr7⟩=>?_
   have I7':=I7.pinned (stat fr7) (T.obj _ _ st7)
   have back:∀{σ9:St} {H9:Hp} {s9:dw},Inv (z0A X N' sc s3 (upd H D (.lst [])) fp pins En) ([]++y1c fp s7.heap) σ9 H9 s9->N σ9 H9 →
     ∃m,m<n∧∃i σ' H',Inv (z0A X N' sc s3 (upd H D (.lst [])) fp pins En) [] σ' H' s9∧tn i s9.heap∧(∀b∈fp,H' b=none)∧W i m σ' H':=fun {σ9 H9 s9} I9 n9=>by
    obtain⟨m',hm,w9⟩:=hN σ9 H9 n9
    refine⟨m',hm,i+1,σ9,H9,I9.unpinned,T.keep _ _ _ st7 fun b hb o e=>(I9.pin (b,o) (aC _ (aC _ (z4I hb e)))).1,fun b hb=>?_,w9⟩
    obtain⟨o,e,d⟩:=T.obj _ _ st7 b hb
    exact(I9.pin (b,o) (aC _ (aC _ (z4I hb e)))).2.1
   refine thn (Pg _ s7 σ5 H7 x u _ I7' r7 (turn x H7 y7)) fun _ s8 ⟨σ8,H8,I8,q8⟩=>?_
   refine thn (Pt _ s8 σ8 H8 _ I8 q8) fun ok s9 ⟨H9,I9,q9⟩=>?_
   cases ok with
   |false=>
    rw[if_neg av]at q9
    rw[if_neg av]
    exact back I9 q9
   |true=>
    rw[if_pos rfl]at q9
    rw[if_pos rfl]
    refine thn (Pe _ s9 σ8 H9 _ I9 q9) fun y s10 ⟨yv,H10,I10,r10,ys,hys,hl,q10⟩=>?_
    refine thn (z1F _ s10 σ8 H10 (.ref D) [yv] (.ref D) [y] (fun _ H'=>N σ8 H') I10 rfl (.cons r10 .nil) ⟨D,ys,yv,rfl,rfl,hys,hl,q10⟩) fun _ s11 ⟨_,H11,I11,_,q11⟩=>?_
    exact back I11 q11
 exact codeAny_compStart_list loop (T.self X.A 0 _ _ _ st4 loop)
theorem CompScope.names'{N:List Str}{out:List (Str×NameKind)}(S:CompScope N out N' k sc):∀x∈sc.names,x.2 = .local->sc.names.lookup x.1=some .local:=fun x hx e=>by
 obtain⟨n,kd⟩:=x
 have e':kd = .local:=e
 subst e'
 exact S.look hx
theorem y3m(hc:X.calm=true)(S:CompScope X.N X.env.scope.names N' k sc)(hi:PI X tg iter wi)(P:PComp X N' sc tg ifs elt g tc te)(hs:∀x,foldedSetIterable iter X.env x=pure x:=by intro _;rfl):
  PE X (.ListComp elt [⟨tg,iter,ifs,0⟩] sc pos) (y5Y wi g tc te k):=by
 intro pins s σ H Q I h
 rw[eval_ListComp]
 refine wpAny_comprehension_free (use:=none) rfl hs (z2s fun n hn=>I.ok.has n (S.fr hn)) S.kind S.names' (thn (hi pins s σ H _ I h) fun v s1 h1=>thn h1 fun itv s2 h2=>?_)
 obtain⟨it,fp,tn,J,H2,e,I2,T,st2,f2,hW⟩:=h2
 subst e
 refine z5Y (Q:=Q) (RR:=fun acc C=>compPost (model X.prog X.w) X.A X.xe none (EP X pins σ Q) acc C) (PC:=fun _ _ _=>True) hc S (fun s H E _=>⟨P.pg s H _ _ E,P.pt s H _ _ E,P.pe s H _ _ E⟩) (fun _ _ _ _ _=>trivial) I2 T st2 f2 hW ?_
 intro D s3 H3 σ' H' s' E' I3 f3 J' q
 obtain⟨m,hn,_⟩:=J'.loc
 exact⟨m,hn,fun h' hb=>⟨.ref D,H',y0Y I3 (z5K I3 f3 J') J'.free hb,rfl,q⟩⟩
theorem y7g{i:Nat}{y:Str}{py spos:Pos}(hc:X.calm=true)(S:CompScope X.N X.env.scope.names N' k sc)(hN:X.N.Nodup)(hy:X.N[i]? = some y)(hyl:X.env.scope.names.lookup y=some .local)(hi:PI X tg iter wi)(P:PComp X N' sc tg ifs elt g tc te)
  (hsw:swapsWith (.ListComp elt [⟨tg,iter,ifs,0⟩] sc pos) (some (.Name y py)) spos.line X.env=pure true:=by rfl) (hs:∀x,foldedSetIterable iter X.env x=pure x:=by intro _;rfl):
  PS X (.Assign [.Name y py] (.ListComp elt [⟨tg,iter,ifs,0⟩] sc pos) spos) (tAsg (y5Y wi g tc te k) (z2w i)):=by
 intro pins s σ H D I h
 rw[exec_Assign_Name_used _ _ _ _ hsw]
 refine wpAny_bind (wpAny_standAt (wpAny_bind ?_))
 show wpAny _ X.A (do let _ ←comprehension (.ListComp elt [⟨tg,iter,ifs,0⟩] sc pos) sc X.env _ (newList []) false (eval iter X.env) (some (fF (.Name y py) X.env))) _ _ s
 refine wpAny_bind (wpAny_mono (wpAny_comprehension_free (use:=some (fF (.Name y py) X.env)) (Q:=fun _ s'=>SP X pins D .next s') rfl hs (z2s fun n hn=>I.ok.has n (S.fr hn)) S.kind S.names'
  (thn (hi pins s σ H _ I h) fun v s1 h1=>thn h1 fun itv s2 h2=>?_)) (fun _ s' hq=>wpAny_pure (wpAny_pure hq)) fun _ _ e=>e)
 obtain⟨it,fp,tn,J,H2,e,I2,T,st2,f2,hW⟩:=h2
 subst e
 refine z5Y (Q:=fun v H'=>D.nx (σ.set i (some v)) H') (RR:=fun acc C=>compPost (model X.prog X.w) X.A X.xe (some (fF (.Name y py) X.env)) (fun _ s'=>SP X pins D .next s') acc C) (PC:=fun _ _ _=>True) hc S (fun s H E _=>⟨P.pg s H _ _ E,P.pt s H _ _ E,P.pe s H _ _ E⟩) (fun _ _ _ _ _=>trivial) I2 T st2 f2 hW ?_
 intro a s3 H3 σ' H' s' E' I3 f3 J' q
 have J2:=z5K I3 f3 J'
 obtain⟨m,hn,_⟩:=J'.loc
 show wpAny _ X.A (fF (.Name y py) X.env (.ref a)) _ _ _
 refine wpAny_assign_Name (z7g J2 hN hy (.inl hyl) (v:=.ref a) rfl (fun s4 I4 hsb=>?_) (.inr hyl))
 obtain⟨b,hb,hb'⟩:=hsb
 have hne:b≠s3.heap.objs.size:=by
  rcases hb' with z | z
  ·rw[z];exact aE I3.lt
  ·obtain⟨v,w'⟩:=I3.cell y b z
   exact aE w'.lt
 refine⟨m,hn.sameBut hb (Ne.symm hne),fun h' hb2=>⟨_,H',?_,q⟩⟩
 have I3':Inv X pins (σ.set i (some (.ref a))) H3 s3∨True:=.inr trivial
 refine I4.turned (t':=s4.toks) (it:=s3.heap.objs.size) (fun b o hne e=>(hb2.2 b hne).trans e) J'.free (b7 I3.lt) (.inr I3.sz) (fun x c e=>?_) fun p hp=>?_
 ·obtain⟨v,q⟩:=I3.cell x c e
  exact aE q.lt
 ·exact aE (Heap.lt_size (I3.pin p hp).1)
end
inductive D where
 |non | bl (b:Bool) | int (i:Int) | str (x:Str) | lst (xs:List D) | tup (xs:List D) | scr (ns:List Int) | dct (ks:List Key) (xs:List D) | exc (x:Str) | obj (x:Str) (a:Addr) (ks:List Str) (ds:List D) | cel (a:Addr) (ds:List D)
def z5q(K:aa)(C:Addr):Bool:=aV K (.ref C) "__getattribute__" == some (some (.builtin "BaseException.__getattribute__"))&&aV K (.ref C) "__getattr__" == some none&&bG K C (.type "BaseException")==some true&&(d9 K C).isSome&&aV K (.ref C) "__class__" == some (some (.builtin "object.__class__")) &&
 bT K (.builtin "object.__class__") "__get__" == some (some (.builtin "getset_descriptor.__get__"))&&cD K (.builtin "object.__class__")==some true&&bG K C (.type "object")==some true &&
 ["bool", "int", "str", "list", "tuple", "dict"].all fun T=>aN K (.ref C) (.type T)==some false
def y5i(K:aa)(C:Addr)(ks:List Str):Bool:=dE K C Str.empty&&eX K C&&eW K C&&aV K (.ref C) "__setattr__" == some (some (.builtin "object.__setattr__")) &&
 aV K (.ref C) "__class__" == some (some (.builtin "object.__class__"))&&bT K (.builtin "object.__class__") "__get__" == some (some (.builtin "getset_descriptor.__get__"))&&cD K (.builtin "object.__class__")==some true&&bG K C (.type "object")==some true &&
 (["bool", "int", "str", "list", "tuple", "dict"].all fun T=>aN K (.ref C) (.type T)==some false)&&ks.all fun f=>aV K (.ref C) f==some none
def isX(a C:Addr)(h:Heap):Prop:=∃o,h.get? a=some o∧o.cls = .ref C∧o.dict=none∧PySem.W.notCls o=true
def SqF(K:aa)(H:Hp)(a:Addr)(xs:List V):Prop:=
 (∃o,H a=some (.frz o (.lst xs)))∨∃(o:Obj) (its:Array Value) (n:Nat),K.lookup a=some o∧o.cls = .type "list" ∧ o.dict=none∧o.data = .seq its n∧its.size≤sizeLine∧Vals xs its.toList
theorem SqF.sq{K:aa}{H:Hp}{a:Addr}{xs:List V}(h:SqF K H a xs):SqL K H a xs:=h.elim (fun z=>.inl (.inr z)) .inr
mutual
def Rep(K:aa)(H:Hp)(B:Addr->Prop):D->V->Prop
 |.non,v=>v = .non
 |.bl b,v=>v = .bl b
 |.int i,v=>v = .int i
 |.str x,v=>v = .str x
 |.lst ds,v=>∃a xs,v = .ref a∧¬ B a∧H a=some (.lst xs)∧Reps K H B ds xs
 |.tup ds,v=>∃a xs,v = .ref a∧SqT K H a xs∧Reps K H B ds xs
 |.scr ns,v=>∃a,v = .ref a∧SqF K H a (ns.map V.int)
 |.dct ks ds,v=>∃a kvs,v = .ref a∧¬ B a∧H a=some (.dK kvs)∧kvs.map (·.1)=ks∧Reps K H B ds (kvs.map (·.2))
 |.exc x,v=>∃a C,v = .ref a∧¬ B a∧H a=some (.ext (isX a C))∧aD K mainGlobals x=some (some (.ref C))∧z5q K C=true
 |.obj x a ks ds,v=>∃C dx fs,¬ B a∧H a=some (.ins C dx fs)∧(v = .ref a∧aD K mainGlobals x=some (some (.ref C))∧y5i K C ks=true∧fs.map (·.1)=ks)∧Reps K H B ds (fs.map (·.2))
 |.cel a ds,v=>∃xs,¬ B a∧H a=some (.lst xs)∧v = .ref a∧Reps K H B ds xs
def Reps(K:aa)(H:Hp)(B:Addr->Prop):List D->List V->Prop
 |[],xs=>xs=[]
 |d::ds,xs=>∃x r,xs=x::r∧Rep K H B d x∧Reps K H B ds r
end
mutual
def Tree(K:aa)(H:Hp):D->V->List Addr->Prop
 |.non,v,A=>v = .non∧A=[]
 |.bl b,v,A=>v = .bl b∧A=[]
 |.int i,v,A=>v = .int i∧A=[]
 |.str x,v,A=>v = .str x∧A=[]
 |.lst ds,v,A=>∃a xs B,v = .ref a∧H a=some (.lst xs)∧Trees K H ds xs B∧A=a::B
 |.tup ds,v,A=>∃a xs,v = .ref a∧SqT K H a xs∧Trees K H ds xs A
 |.scr ns,v,A=>(∃a,v = .ref a∧SqF K H a (ns.map V.int))∧A=[]
 |.dct ks ds,v,A=>∃a kvs B,v = .ref a∧H a=some (.dK kvs)∧kvs.map (·.1)=ks∧Trees K H ds (kvs.map (·.2)) B∧A=a::B
 |.exc x,v,A=>∃a C,v = .ref a∧H a=some (.ext (isX a C))∧aD K mainGlobals x=some (some (.ref C))∧z5q K C=true∧A=[a]
 |.obj x a ks ds,v,A=>∃C dx fs A1,H a=some (.ins C dx fs)∧(v = .ref a∧aD K mainGlobals x=some (some (.ref C))∧y5i K C ks=true∧fs.map (·.1)=ks)∧Trees K H ds (fs.map (·.2)) A1∧A=a::A1
 |.cel a ds,v,A=>∃xs B,H a=some (.lst xs)∧v = .ref a∧Trees K H ds xs B∧A=a::B
def Trees(K:aa)(H:Hp):List D->List V->List Addr->Prop
 |[],xs,A=>xs=[]∧A=[]
 |d::ds,xs,A=>∃x r B C,xs=x::r∧Tree K H d x B∧Trees K H ds r C∧A=B++C
end
mutual
def D.imm:D->Bool
 |.non=>true
 |.bl _=>true
 |.int _=>true
 |.str _=>true
 |.lst _=>false
 |.tup ds=>z2d ds
 |.scr _=>true
 |.dct _ _=>false
 |.exc _=>false
 |.obj _ _ _ _=>false
 |.cel _ _=>false
def z2d:List D->Bool
 |[]=>true
 |d::ds=>d.imm&&z2d ds
end
theorem Same.tup{K:aa}{H H':Hp}{a:Addr}{xs:List V}(e:Same H H')(h:SqT K H a xs):SqT K H' a xs:=by
 rcases h with (h | ⟨o,h⟩) | h
 ·exact .inl (.inl (e _ _ h))
 ·exact .inl (.inr ⟨o,e _ _ h⟩)
 ·exact .inr h
section
variable{K:aa}{H H':Hp}{B B':Addr->Prop}
structure KeepI(K:aa)(H H':Hp):Prop where
 st:∀a xs,SqT K H a xs->SqT K H' a xs
 sf:∀a xs,SqF K H a xs->SqF K H' a xs
structure Keep(K:aa)(B:Addr->Prop)(H H':Hp):Prop where
 sl:∀a xs,¬ B a->H a=some (.lst xs)->H' a=some (.lst xs)
 st:∀a xs,SqT K H a xs->SqT K H' a xs
 sf:∀a xs,SqF K H a xs->SqF K H' a xs
 sd:∀a kvs,¬ B a->H a=some (.dK kvs)->H' a=some (.dK kvs)
 sx:∀a φ,¬ B a->H a=some (.ext φ)->H' a=some (.ext φ)
 si:∀a C dx fs,¬ B a->H a=some (.ins C dx fs)->H' a=some (.ins C dx fs)
theorem Keep.i(k:Keep K B H H'):KeepI K H H':=⟨k.st,k.sf⟩
mutual
theorem Rep.keep(k:Keep K B H H'):∀(d:D) {v:V},Rep K H B d v->Rep K H' B d v
 |.non,_,h=>h
 |.bl _,_,h=>h
 |.int _,_,h=>h
 |.str _,_,h=>h
 |.lst ds,_,h=>by
  unfold Rep at h ⊢
  obtain⟨a,xs,e,n,s,r⟩:=h
  exact⟨a,xs,e,n,k.sl a xs n s,Reps.keep k ds r⟩
 |.tup ds,_,h=>by
  unfold Rep at h ⊢
  obtain⟨a,xs,e,s,r⟩:=h
  exact⟨a,xs,e,k.st a xs s,Reps.keep k ds r⟩
 |.scr ns,_,h=>by
  unfold Rep at h ⊢
  obtain⟨a,e,s⟩:=h
  exact⟨a,e,k.sf a _ s⟩
 |.dct ks ds,_,h=>by
  unfold Rep at h ⊢
  obtain⟨a,kvs,e,n,s,q,r⟩:=h
  exact⟨a,kvs,e,n,k.sd a kvs n s,q,Reps.keep k ds r⟩
 |.exc _,_,h=>by
  unfold Rep at h ⊢
  obtain⟨a,C,e,n,s,r⟩:=h
  exact⟨a,C,e,n,k.sx a _ n s,r⟩
 |.obj x a ks ds,_,h=>by
  unfold Rep at h ⊢
  obtain⟨C,dx,fs,n,s,q,r1⟩:=h
  exact⟨C,dx,fs,n,k.si a C dx fs n s,q,Reps.keep k ds r1⟩
 |.cel a ds,_,h=>by
  unfold Rep at h ⊢
  obtain⟨xs,n,s,e,r⟩:=h
  exact⟨xs,n,k.sl a xs n s,e,Reps.keep k ds r⟩
theorem Reps.keep(k:Keep K B H H'):∀(ds:List D) {xs:List V},Reps K H B ds xs->Reps K H' B ds xs
 |[],_,h=>h
 |d::ds,_,h=>by
  unfold Reps at h ⊢
  obtain⟨x,r,e,h1,h2⟩:=h
  exact⟨x,r,e,Rep.keep k d h1,Reps.keep k ds h2⟩
end
mutual
theorem Rep.anti(hb:∀a,B' a->B a):∀(d:D) {v:V},Rep K H B d v->Rep K H B' d v
 |.non,_,h=>h
 |.bl _,_,h=>h
 |.int _,_,h=>h
 |.str _,_,h=>h
 |.lst ds,_,h=>by
  unfold Rep at h ⊢
  obtain⟨a,xs,e,n,s,r⟩:=h
  exact⟨a,xs,e,fun z=>n (hb a z),s,Reps.anti hb ds r⟩
 |.tup ds,_,h=>by
  unfold Rep at h ⊢
  obtain⟨a,xs,e,s,r⟩:=h
  exact⟨a,xs,e,s,Reps.anti hb ds r⟩
 |.scr _,_,h=>h
 |.dct ks ds,_,h=>by
  unfold Rep at h ⊢
  obtain⟨a,kvs,e,n,s,q,r⟩:=h
  exact⟨a,kvs,e,fun z=>n (hb a z),s,q,Reps.anti hb ds r⟩
 |.exc _,_,h=>by
  unfold Rep at h ⊢
  obtain⟨a,C,e,n,r⟩:=h
  exact⟨a,C,e,fun z=>n (hb a z),r⟩
 |.obj x a ks ds,_,h=>by
  unfold Rep at h ⊢
  obtain⟨C,dx,fs,n,s,q,r1⟩:=h
  exact⟨C,dx,fs,fun z=>n (hb a z),s,q,Reps.anti hb ds r1⟩
 |.cel a ds,_,h=>by
  unfold Rep at h ⊢
  obtain⟨xs,n,s,e,r⟩:=h
  exact⟨xs,fun z=>n (hb a z),s,e,Reps.anti hb ds r⟩
theorem Reps.anti(hb:∀a,B' a->B a):∀(ds:List D) {xs:List V},Reps K H B ds xs->Reps K H B' ds xs
 |[],_,h=>h
 |d::ds,_,h=>by
  unfold Reps at h ⊢
  obtain⟨x,r,e,h1,h2⟩:=h
  exact⟨x,r,e,Rep.anti hb d h1,Reps.anti hb ds h2⟩
end
mutual
theorem Rep.imm:∀(d:D) {v:V},d.imm=true->Rep K H B d v->Rep K H B' d v
 |.non,_,_,h=>h
 |.bl _,_,_,h=>h
 |.int _,_,_,h=>h
 |.str _,_,_,h=>h
 |.lst _,_,i,_=>by unfold D.imm at i;cases i
 |.dct _ _,_,i,_=>by unfold D.imm at i;cases i
 |.exc _,_,i,_=>by unfold D.imm at i;cases i
 |.obj _ _ _ _,_,i,_=>by unfold D.imm at i;cases i
 |.cel _ _,_,i,_=>by unfold D.imm at i;cases i
 |.tup ds,_,i,h=>by
  unfold D.imm at i
  unfold Rep at h ⊢
  obtain⟨a,xs,e,s,r⟩:=h
  exact⟨a,xs,e,s,Reps.imm ds i r⟩
 |.scr _,_,_,h=>h
theorem Reps.imm:∀(ds:List D) {xs:List V},z2d ds=true->Reps K H B ds xs->Reps K H B' ds xs
 |[],_,_,h=>h
 |d::ds,_,i,h=>by
  unfold z2d at i
  rw[aJ]at i
  unfold Reps at h ⊢
  obtain⟨x,r,e,h1,h2⟩:=h
  exact⟨x,r,e,Rep.imm d i.1 h1,Reps.imm ds i.2 h2⟩
end
mutual
theorem Rep.immTree:∀(d:D) {v:V},d.imm=true->Rep K H B d v->Tree K H d v []
 |.non,_,_,h=>⟨h,rfl⟩
 |.bl _,_,_,h=>⟨h,rfl⟩
 |.int _,_,_,h=>⟨h,rfl⟩
 |.str _,_,_,h=>⟨h,rfl⟩
 |.lst _,_,i,_=>by unfold D.imm at i;cases i
 |.dct _ _,_,i,_=>by unfold D.imm at i;cases i
 |.exc _,_,i,_=>by unfold D.imm at i;cases i
 |.obj _ _ _ _,_,i,_=>by unfold D.imm at i;cases i
 |.cel _ _,_,i,_=>by unfold D.imm at i;cases i
 |.tup ds,_,i,h=>by
  unfold D.imm at i
  unfold Rep at h
  unfold Tree
  obtain⟨a,xs,e,s,r⟩:=h
  exact⟨a,xs,e,s,Reps.immTree ds i r⟩
 |.scr _,_,_,h=>⟨h,rfl⟩
theorem Reps.immTree:∀(ds:List D) {xs:List V},z2d ds=true->Reps K H B ds xs->Trees K H ds xs []
 |[],_,_,h=>⟨h,rfl⟩
 |d::ds,_,i,h=>by
  unfold z2d at i
  rw[aJ]at i
  unfold Reps at h
  unfold Trees
  obtain⟨x,r,e,h1,h2⟩:=h
  exact⟨x,r,[],[],e,Rep.immTree d i.1 h1,Reps.immTree ds i.2 h2,rfl⟩
end
mutual
theorem Tree.rep:∀(d:D) {v:V} {A:List Addr},Tree K H d v A->(∀a∈A,¬ B a)->Rep K H B d v
 |.non,_,_,h,_=>h.1
 |.bl _,_,_,h,_=>h.1
 |.int _,_,_,h,_=>h.1
 |.str _,_,_,h,_=>h.1
 |.lst ds,_,_,h,n=>by
  unfold Tree at h
  unfold Rep
  obtain⟨a,xs,C,e,s,r,rfl⟩:=h
  exact⟨a,xs,e,n a ac,s,Trees.rep ds r fun b hb=>n b (ae _ hb)⟩
 |.tup ds,_,_,h,n=>by
  unfold Tree at h
  unfold Rep
  obtain⟨a,xs,e,s,r⟩:=h
  exact⟨a,xs,e,s,Trees.rep ds r n⟩
 |.scr _,_,_,h,_=>h.1
 |.dct ks ds,_,_,h,n=>by
  unfold Tree at h
  unfold Rep
  obtain⟨a,kvs,C,e,s,q,r,rfl⟩:=h
  exact⟨a,kvs,e,n a ac,s,q,Trees.rep ds r fun b hb=>n b (ae _ hb)⟩
 |.exc _,_,_,h,n=>by
  unfold Tree at h
  unfold Rep
  obtain⟨a,C,e,s,r1,r2,rfl⟩:=h
  exact⟨a,C,e,n a ac,s,r1,r2⟩
 |.obj x a ks ds,_,_,h,n=>by
  unfold Tree at h
  unfold Rep
  obtain⟨C,dx,fs,A1,s,q,r1,rfl⟩:=h
  exact⟨C,dx,fs,n a ac,s,q,Trees.rep ds r1 fun b hb=>n b (ae _ hb)⟩
 |.cel a ds,_,_,h,n=>by
  unfold Tree at h
  unfold Rep
  obtain⟨xs,C,s,e,r,rfl⟩:=h
  exact⟨xs,n a ac,s,e,Trees.rep ds r fun b hb=>n b (ae _ hb)⟩
theorem Trees.rep:∀(ds:List D) {xs:List V} {A:List Addr},Trees K H ds xs A->(∀a∈A,¬ B a)->Reps K H B ds xs
 |[],_,_,h,_=>h.1
 |d::ds,_,_,h,n=>by
  unfold Trees at h
  unfold Reps
  obtain⟨x,r,C,C',e,h1,h2,rfl⟩:=h
  exact⟨x,r,e,Tree.rep d h1 fun b hb=>n b (aQ _ hb),Trees.rep ds h2 fun b hb=>n b (aC _ hb)⟩
end
mutual
theorem Tree.keep(kt:KeepI K H H'):∀(d:D) {v:V} {A:List Addr},Tree K H d v A->(∀a∈A,∀o,H a=some o->H' a=some o)->Tree K H' d v A
 |.non,_,_,h,_=>h
 |.bl _,_,_,h,_=>h
 |.int _,_,_,h,_=>h
 |.str _,_,_,h,_=>h
 |.lst ds,_,_,h,n=>by
  unfold Tree at h ⊢
  obtain⟨a,xs,C,e,s,r,rfl⟩:=h
  exact⟨a,xs,C,e,n a ac _ s,Trees.keep kt ds r fun b hb=>n b (ae _ hb),rfl⟩
 |.tup ds,_,_,h,n=>by
  unfold Tree at h ⊢
  obtain⟨a,xs,e,s,r⟩:=h
  exact⟨a,xs,e,kt.st a xs s,Trees.keep kt ds r n⟩
 |.scr _,_,_,h,_=>by
  unfold Tree at h ⊢
  obtain⟨⟨a,e,s⟩,q⟩:=h
  exact⟨⟨a,e,kt.sf a _ s⟩,q⟩
 |.dct ks ds,_,_,h,n=>by
  unfold Tree at h ⊢
  obtain⟨a,kvs,C,e,s,q,r,rfl⟩:=h
  exact⟨a,kvs,C,e,n a ac _ s,q,Trees.keep kt ds r fun b hb=>n b (ae _ hb),rfl⟩
 |.exc _,_,_,h,n=>by
  unfold Tree at h ⊢
  obtain⟨a,C,e,s,r1,r2,rfl⟩:=h
  exact⟨a,C,e,n a ac _ s,r1,r2,rfl⟩
 |.obj x a ks ds,_,_,h,n=>by
  unfold Tree at h ⊢
  obtain⟨C,dx,fs,A1,s,q,r1,rfl⟩:=h
  exact⟨C,dx,fs,A1,n a ac _ s,q,Trees.keep kt ds r1 fun b hb=>n b (ae _ hb),rfl⟩
 |.cel a ds,_,_,h,n=>by
  unfold Tree at h ⊢
  obtain⟨xs,C,s,e,r,rfl⟩:=h
  exact⟨xs,C,n a ac _ s,e,Trees.keep kt ds r fun b hb=>n b (ae _ hb),rfl⟩
theorem Trees.keep(kt:KeepI K H H'):∀(ds:List D) {xs:List V} {A:List Addr},Trees K H ds xs A->(∀a∈A,∀o,H a=some o->H' a=some o)->Trees K H' ds xs A
 |[],_,_,h,_=>h
 |d::ds,_,_,h,n=>by
  unfold Trees at h ⊢
  obtain⟨x,r,C,C',e,h1,h2,rfl⟩:=h
  exact⟨x,r,C,C',e,Tree.keep kt d h1 fun b hb=>n b (aQ _ hb),Trees.keep kt ds h2 fun b hb=>n b (aC _ hb),rfl⟩
end
mutual
theorem Tree.held:∀(d:D) {v:V} {A:List Addr},Tree K H d v A->∀a∈A,∃o,H a=some o∧Mut (some o)
 |.non,_,_,h,a,ha=>by rw[h.2]at ha;cases ha
 |.bl _,_,_,h,a,ha=>by rw[h.2]at ha;cases ha
 |.int _,_,_,h,a,ha=>by rw[h.2]at ha;cases ha
 |.str _,_,_,h,a,ha=>by rw[h.2]at ha;cases ha
 |.lst ds,_,_,h,b,hb=>by
  unfold Tree at h
  obtain⟨a,xs,C,e,s,r,rfl⟩:=h
  rcases ai.mp hb with z | z
  ·subst z;exact⟨_,s,trivial⟩
  ·exact Trees.held ds r b z
 |.tup ds,_,_,h,b,hb=>by
  unfold Tree at h
  obtain⟨a,xs,e,s,r⟩:=h
  exact Trees.held ds r b hb
 |.scr _,_,_,h,a,ha=>by rw[h.2]at ha;cases ha
 |.dct ks ds,_,_,h,b,hb=>by
  unfold Tree at h
  obtain⟨a,kvs,C,e,s,q,r,rfl⟩:=h
  rcases ai.mp hb with z | z
  ·subst z;exact⟨_,s,trivial⟩
  ·exact Trees.held ds r b z
 |.exc _,_,_,h,b,hb=>by
  unfold Tree at h
  obtain⟨a,C,e,s,r1,r2,rfl⟩:=h
  rw[ag.mp hb]
  exact⟨_,s,trivial⟩
 |.obj x a ks ds,_,_,h,b,hb=>by
  unfold Tree at h
  obtain⟨C,dx,fs,A1,s,q,r1,rfl⟩:=h
  rcases ai.mp hb with z | z
  ·subst z;exact⟨_,s,trivial⟩
  ·exact Trees.held ds r1 b z
 |.cel a ds,_,_,h,b,hb=>by
  unfold Tree at h
  obtain⟨xs,C,s,e,r,rfl⟩:=h
  rcases ai.mp hb with z | z
  ·subst z;exact⟨_,s,trivial⟩
  ·exact Trees.held ds r b z
theorem Trees.held:∀(ds:List D) {xs:List V} {A:List Addr},Trees K H ds xs A->∀a∈A,∃o,H a=some o∧Mut (some o)
 |[],_,_,h,a,ha=>by rw[h.2]at ha;cases ha
 |d::ds,_,_,h,b,hb=>by
  unfold Trees at h
  obtain⟨x,r,C,C',e,h1,h2,rfl⟩:=h
  rcases au.mp hb with z | z
  ·exact Tree.held d h1 b z
  ·exact Trees.held ds h2 b z
end
theorem Same.sf(e:Same H H'){a:Addr}{xs:List V}(h:SqF K H a xs):SqF K H' a xs:=h.elim (fun⟨o,z⟩=>.inl ⟨o,e _ _ z⟩) .inr
theorem Keep.same(e:Same H H'):Keep K B H H':=⟨fun _ _ _ h=>e _ _ h,fun _ _ h=>e.tup h,fun _ _ h=>e.sf h,fun _ _ _ h=>e _ _ h,fun _ _ _ h=>e _ _ h,fun _ _ _ _ _ h=>e _ _ h⟩
theorem KeepI.same(e:Same H H'):KeepI K H H':=⟨fun _ _ h=>e.tup h,fun _ _ h=>e.sf h⟩
theorem Rep.mono{d:D}{v:V}(h:Rep K H B d v)(e:Same H H'):Rep K H' B d v:=Rep.keep (.same e) d h
theorem Reps.mono{ds:List D}{xs:List V}(h:Reps K H B ds xs)(e:Same H H'):Reps K H' B ds xs:=Reps.keep (.same e) ds h
theorem Tree.mono{d:D}{v:V}{A:List Addr}(h:Tree K H d v A)(e:Same H H'):Tree K H' d v A:=Tree.keep (.same e) d h fun a _ o z=>e a o z
theorem Trees.mono{ds:List D}{v:List V}{A:List Addr}(h:Trees K H ds v A)(e:Same H H'):Trees K H' ds v A:=Trees.keep (.same e) ds h fun a _ o z=>e a o z
mutual
theorem Rep.wide{C:Addr->Prop}(hc:∀a,C a->H a=none):∀(d:D) {v:V},Rep K H B d v->Rep K H (fun a=>B a∨C a) d v
 |.non,_,h=>h
 |.bl _,_,h=>h
 |.int _,_,h=>h
 |.str _,_,h=>h
 |.lst ds,_,h=>by
  unfold Rep at h ⊢
  obtain⟨a,xs,e,n,s,r⟩:=h
  refine⟨a,xs,e,fun z=>z.elim n fun z=>?_,s,Reps.wide hc ds r⟩
  rw[hc a z]at s;cases s
 |.tup ds,_,h=>by
  unfold Rep at h ⊢
  obtain⟨a,xs,e,s,r⟩:=h
  exact⟨a,xs,e,s,Reps.wide hc ds r⟩
 |.scr _,_,h=>h
 |.dct ks ds,_,h=>by
  unfold Rep at h ⊢
  obtain⟨a,kvs,e,n,s,q,r⟩:=h
  refine⟨a,kvs,e,fun z=>z.elim n fun z=>?_,s,q,Reps.wide hc ds r⟩
  rw[hc a z]at s;cases s
 |.exc _,_,h=>by
  unfold Rep at h ⊢
  obtain⟨a,C,e,n,s,r⟩:=h
  refine⟨a,C,e,fun z=>z.elim n fun z=>?_,s,r⟩
  rw[hc a z]at s;cases s
 |.obj x a ks ds,_,h=>by
  unfold Rep at h ⊢
  obtain⟨C',dx,fs,n,s,q,r1⟩:=h
  refine⟨C',dx,fs,fun z=>z.elim n fun z=>?_,s,q,Reps.wide hc ds r1⟩
  rw[hc a z]at s;cases s
 |.cel a ds,_,h=>by
  unfold Rep at h ⊢
  obtain⟨xs,n,s,e,r⟩:=h
  refine⟨xs,fun z=>z.elim n fun z=>?_,s,e,Reps.wide hc ds r⟩
  rw[hc a z]at s;cases s
theorem Reps.wide{C:Addr->Prop}(hc:∀a,C a->H a=none):∀(ds:List D) {xs:List V},Reps K H B ds xs->Reps K H (fun a=>B a∨C a) ds xs
 |[],_,h=>h
 |d::ds,_,h=>by
  unfold Reps at h ⊢
  obtain⟨x,r,e,h1,h2⟩:=h
  exact⟨x,r,e,Rep.wide hc d h1,Reps.wide hc ds h2⟩
end
theorem Keep.upd{a:Addr}{o:HO}(hb:B a)(mu:Mut (H a)):Keep K B H (upd H a o):=by
 refine⟨fun b xs n h=>?_,fun b xs h=>?_,fun b xs h=>?_,fun b kvs n h=>?_,fun b φ n h=>?_,fun b C dx fs n h=>?_⟩
 ·have ne:b≠a:=fun z=>n (z ▸ hb)
  rw[z0y ne];exact h
 ·rcases h with (h | ⟨u,h⟩) | h
  ·have ne:b≠a:=fun z=>by subst z;rw[h]at mu;exact mu
   exact .inl (.inl (by rw[z0y ne];exact h))
  ·have ne:b≠a:=fun z=>by subst z;rw[h]at mu;exact mu
   exact .inl (.inr ⟨u,by rw[z0y ne];exact h⟩)
  ·exact .inr h
 ·rcases h with⟨u,h⟩ | h
  ·have ne:b≠a:=fun z=>by subst z;rw[h]at mu;exact mu
   exact .inl ⟨u,by rw[z0y ne];exact h⟩
  ·exact .inr h
 ·have ne:b≠a:=fun z=>n (z ▸ hb)
  rw[z0y ne];exact h
 ·have ne:b≠a:=fun z=>n (z ▸ hb)
  rw[z0y ne];exact h
 ·have ne:b≠a:=fun z=>n (z ▸ hb)
  rw[z0y ne];exact h
theorem z0s{a:Addr}{o:HO}(h:H a=none):Same H (upd H a o):=fun b u e=>by rw[z0y (z1o e h)];exact e
theorem Reps.length:∀{ds:List D} {xs:List V},Reps K H B ds xs->ds.length=xs.length
 |[],_,h=>by unfold Reps at h;subst h;rfl
 |d::ds,_,h=>by
  unfold Reps at h
  obtain⟨x,r,rfl,_,h2⟩:=h
  simp[Reps.length h2]
theorem Reps.get:∀{ds:List D} {xs:List V} {i:Nat} {d:D},Reps K H B ds xs->ds[i]? = some d->∃x,xs[i]? = some x∧Rep K H B d x
 |[],_,_,_,_,e=>by simp at e
 |d::ds,_,i,d',h,e=>by
  unfold Reps at h
  obtain⟨x,r,rfl,h1,h2⟩:=h
  cases i with
  |zero=>simp at e;subst e;exact⟨x,rfl,h1⟩
  |succ i=>simpa using Reps.get (i:=i) h2 (by simpa using e)
theorem Reps.get':∀{ds:List D} {xs:List V} {i:Nat} {x:V},Reps K H B ds xs->xs[i]? = some x->∃d,ds[i]? = some d∧Rep K H B d x
 |[],_,_,_,h,e=>by unfold Reps at h;subst h;simp at e
 |d::ds,_,i,x',h,e=>by
  unfold Reps at h
  obtain⟨x,r,rfl,h1,h2⟩:=h
  cases i with
  |zero=>simp at e;subst e;exact⟨d,rfl,h1⟩
  |succ i=>simpa using Reps.get' (i:=i) h2 (by simpa using e)
theorem Reps.append:∀{ds es:List D} {xs ys:List V},Reps K H B ds xs->Reps K H B es ys->Reps K H B (ds++es) (xs++ys)
 |[],_,_,_,h,h'=>by unfold Reps at h;subst h;exact h'
 |d::ds,es,_,ys,h,h'=>by
  unfold Reps at h
  obtain⟨x,r,rfl,h1,h2⟩:=h
  exact(show Reps K H B (d::(ds++es)) (x::(r++ys)) by unfold Reps;exact⟨x,r++ys,rfl,h1,Reps.append h2 h'⟩)
theorem Reps.take:∀{ds:List D} {xs:List V} (n:Nat),Reps K H B ds xs->Reps K H B (ds.take n) (xs.take n)
 |_,_,0,_=>by rw[c8,c8];unfold Reps;rfl
 |[],_,_+1,h=>by unfold Reps at h;subst h;unfold Reps;rfl
 |d::ds,_,n+1,h=>by
  unfold Reps at h
  obtain⟨x,r,rfl,h1,h2⟩:=h
  rw[cH,cH]
  unfold Reps
  exact⟨x,_,rfl,h1,Reps.take n h2⟩
theorem Reps.drop:∀{ds:List D} {xs:List V} (n:Nat),Reps K H B ds xs->Reps K H B (ds.drop n) (xs.drop n)
 |_,_,0,h=>h
 |[],_,_+1,h=>by unfold Reps at h;subst h;unfold Reps;rfl
 |d::ds,_,n+1,h=>by
  unfold Reps at h
  obtain⟨x,r,rfl,h1,h2⟩:=h
  exact Reps.drop n h2
theorem Reps.one{d:D}{x:V}(h:Rep K H B d x):Reps K H B [d] [x]:=by unfold Reps;exact⟨x,[],rfl,h,by unfold Reps;rfl⟩
theorem Reps.nil:Reps K H B [] []:=by unfold Reps;rfl
theorem Reps.cons{d:D}{x:V}{ds:List D}{xs:List V}(h:Rep K H B d x)(h':Reps K H B ds xs):Reps K H B (d::ds) (x::xs):=by unfold Reps;exact⟨x,xs,rfl,h,h'⟩
theorem Reps.snoc{d:D}{x:V}{ds:List D}{xs:List V}(h':Reps K H B ds xs)(h:Rep K H B d x):Reps K H B (ds++[d]) (xs++[x]):=h'.append (.one h)
theorem Trees.nil:Trees K H [] [] []:=⟨rfl,rfl⟩
theorem Trees.snoc:∀{ds:List D} {xs:List V} {A C:List Addr} {d:D} {x:V},Trees K H ds xs A->Tree K H d x C->Trees K H (ds++[d]) (xs++[x]) (A++C)
 |[],_,_,C,d,x,h,h'=>by
  obtain⟨rfl,rfl⟩:=h
  exact(show Trees K H [d] [x] C by unfold Trees;exact⟨x,[],C,[],rfl,h',⟨rfl,rfl⟩,(aF _).symm⟩)
 |e::ds,_,_,C,d,x,h,h'=>by
  unfold Trees at h
  obtain⟨y,r,A1,A2,rfl,h1,h2,rfl⟩:=h
  exact(show Trees K H (e::(ds++[d])) (y::(r++[x])) (A1++A2++C) by unfold Trees;exact⟨y,_,A1,A2++C,rfl,h1,Trees.snoc h2 h',aP _ _ _⟩)
end
abbrev DS:=List (Option D)
abbrev DE:=DS->Option D
structure RepS(K:aa)(H:Hp)(B:Addr->Prop)(σ:St)(δ:DS):Prop where
 len:δ.length=σ.length
 get:∀(i:Nat) (d:D),δ[i]? = some (some d)->∃v,σ[i]? = some (some v)∧Rep K H B d v
def InB(B:Addr->Prop)(H:Hp):Prop:=∀a,B a->∃o,H a=some o
def noB:Addr->Prop:=fun _=>False
theorem InB.mono{B:Addr->Prop}{H H':Hp}(h:InB B H)(e:Same H H'):InB B H':=fun a b=>let⟨o,q⟩:=h a b;⟨o,e a o q⟩
theorem InB.no{H:Hp}:InB noB H:=fun _ b=>b.elim
theorem InB.fresh{B:Addr->Prop}{H:Hp}(h:InB B H){a:Addr}(e:H a=none):¬ B a:=fun b=>by
 obtain⟨o,q⟩:=h a b
 rw[e]at q;cases q
theorem RepS.mono{K:aa}{H H':Hp}{B:Addr->Prop}{σ:St}{δ:DS}(h:RepS K H B σ δ)(e:Same H H'):RepS K H' B σ δ:=
 ⟨h.len,fun i d q=>let⟨v,a,r⟩:=h.get i d q;⟨v,a,r.mono e⟩⟩
theorem RepS.anti{K:aa}{H:Hp}{B B':Addr->Prop}{σ:St}{δ:DS}(h:RepS K H B σ δ)(e:∀a,B' a->B a):RepS K H B' σ δ:=
 ⟨h.len,fun i d q=>let⟨v,a,r⟩:=h.get i d q;⟨v,a,r.anti e⟩⟩
def tD(K:aa)(f:DE):TE:=fun σ H Q=>∃B δ d,InB B H∧RepS K H B σ δ∧f δ=some d∧∀v H',Same H H'->Rep K H' B d v->Q v H'
def tF(K:aa)(f:DS->Option (List D)):TE:=fun σ H Q=>∃B δ ds,InB B H∧RepS K H B σ δ∧f δ=some ds ∧
 ∀a xs H',Same H H'->H a=none->H' a=some (.lst xs)->Reps K H' B ds xs->Q (.ref a) H'
def tN(K:aa)(f:DE):TE:=fun σ H Q=>∃δ d,RepS K H noB σ δ∧f δ=some d∧∀v H' A,Same H H'->Tree K H' d v A->A.Nodup->(∀a∈A,H a=none)->Q v H'
def tT(K:aa)(f:DS->Option Bool):TT:=fun σ H Q=>∃B δ b,InB B H∧RepS K H B σ δ∧f δ=some b∧∀H',Same H H'->Q b H'
def tDs(K:aa)(f:DS->Option (List D)):TA:=fun σ H Q=>∃B δ ds,InB B H∧RepS K H B σ δ∧f δ=some ds∧∀vs H',Same H H'->Reps K H' B ds vs->Q vs H'
abbrev PD(X:Cx)(e:Expr)(f:DE):Prop:=PE X e (tD X.K f)
abbrev PF(X:Cx)(e:Expr)(f:DS->Option (List D)):Prop:=PE X e (tF X.K f)
abbrev PN(X:Cx)(e:Expr)(f:DE):Prop:=PE X e (tN X.K f)
abbrev PTD(X:Cx)(e:Expr)(f:DS->Option Bool):Prop:=PT X e (tT X.K f)
abbrev PWD(X:Cx)(e:Expr)(f:DS->Option Bool):Prop:=PW X e (tT X.K f)
section
variable{X:Cx}{e a b c:Expr}{es:List Expr}{pos:Pos}
theorem PE.imp{t t':TE}(h:PE X e t)(w:∀σ H Q,t' σ H Q->t σ H Q):PE X e t':=fun pins s σ H Q I q=>h pins s σ H Q I (w σ H Q q)
theorem PT.imp{t t':TT}(h:PT X e t)(w:∀σ H Q,t' σ H Q->t σ H Q):PT X e t':=fun pins s σ H Q I q=>h pins s σ H Q I (w σ H Q q)
theorem PW.imp{t t':TT}(h:PW X e t)(w:∀σ H Q,t' σ H Q->t σ H Q):PW X e t':=fun wh pins s σ H Q I q=>h wh pins s σ H Q I (w σ H Q q)
theorem PA.imp{t t':TA}(h:PA X es t)(w:∀σ H Q,t' σ H Q->t σ H Q):PA X es t':=fun po pins s σ H Q I q=>h po pins s σ H Q I (w σ H Q q)
def mkL(f:DS->Option (List D)):DE:=fun δ=>(f δ).map .lst
def z0u(f:DS->Option (List D)):DE:=fun δ=>(f δ).bind fun ds=>if z2d ds=true then some (.lst ds)else none
theorem iDF{K:aa}{f:DS->Option (List D)}:∀σ H Q,tD K (mkL f) σ H Q->tF K f σ H Q:=fun σ H Q ⟨B,δ,d,hB,S,q,k⟩=>by
 unfold mkL at q
 cases r:f δ with
 |none=>rw[r]at q;cases q
 |some ds=>
  rw[r]at q
  cases q
  exact⟨B,δ,ds,hB,S,r,fun a xs H' s hn ha hr=>k _ H' s (by unfold Rep;exact⟨a,xs,rfl,hB.fresh hn,ha,hr⟩)⟩
theorem iDN{K:aa}{f:DE}:∀σ H Q,tD K f σ H Q->tN K f σ H Q:=fun σ H Q ⟨B,δ,d,hB,S,q,k⟩=>
 ⟨δ,d,S.anti (fun _ z=>z.elim),q,fun v H' A s t nd fr=>k v H' s (t.rep d fun a ha=>hB.fresh (fr a ha))⟩
theorem iNF{K:aa}{f:DS->Option (List D)}:∀σ H Q,tN K (z0u f) σ H Q->tF K f σ H Q:=fun σ H Q ⟨δ,d,S,q,k⟩=>by
 unfold z0u at q
 cases r:f δ with
 |none=>rw[r]at q;cases q
 |some ds=>
  rw[r]at q
  have q':(if z2d ds=true then some (D.lst ds)else none)=some d:=q
  split at q'
  ·rename_i hi
   cases q'
   refine⟨noB,δ,ds,.no,S,r,fun a xs H' s hn ha hr=>k (.ref a) H' [a] s ?_ (aA.mpr ⟨(fun z=>nomatch z),aY⟩) (fun b hb=>by rw[ag.mp hb];exact hn)⟩
   unfold Tree
   exact⟨a,xs,[],rfl,ha,hr.immTree ds hi,rfl⟩
  ·cases q'
theorem z1Z{f:DS->Option (List D)}(h:PF X e f):PD X e (mkL f):=h.imp iDF
theorem z2D{f:DE}(h:PN X e f):PD X e f:=h.imp iDN
theorem z3V{f:DS->Option (List D)}(h:PF X e f):PN X e (z0u f):=h.imp iNF
def z0b(i:Nat):DE:=fun δ=>(δ[i]?).bind id
def dC(d:D):DE:=fun _=>some d
theorem z0e(i:Nat){x:Str}{p:Pos}(h:PE X (.Name x p) (y1a i)):PD X (.Name x p) (z0b i):=h.imp fun σ H Q ⟨B,δ,d,hB,S,q,k⟩=>by
 unfold z0b at q
 cases r:δ[i]? with
 |none=>rw[r]at q;cases q
 |some o=>
  rw[r]at q
  have q':o=some d:=q
  subst q'
  obtain⟨v,e,rv⟩:=S.get i d r
  exact⟨v,e,k v H (.refl H) rv⟩
theorem pd_C{d:D}{v:V}(h:PE X e (tC v))(r:∀K H B,Rep K H B d v):PD X e (dC d):=h.imp fun σ H Q ⟨B,δ,d',hB,S,q,k⟩=>by
 cases q
 exact k v H (.refl H) (r _ _ _)
theorem z0i{i j p}:PD X (.Constant (.int i) j p) (dC (.int i)):=pd_C pe_int fun _ _ _=>rfl
theorem z3c{i j p}:PD X (.Constant (.bool i) j p) (dC (.bl i)):=pd_C pe_bl fun _ _ _=>rfl
theorem pd_non{j p}:PD X (.Constant .none j p) (dC .non):=pd_C pe_non fun _ _ _=>rfl
theorem z0F{i j p}:PD X (.Constant (.str i) j p) (dC (.str i)):=pd_C pe_str fun _ _ _=>rfl
def d2(F:D->D->Option D)(f g:DE):DE:=fun δ=>(f δ).bind fun x=>(g δ).bind fun y=>F x y
theorem z9Y{F:D->D->Option D}{f g:DE}{δ:DS}{d:D}(h:d2 F f g δ=some d):∃x y,f δ=some x∧g δ=some y∧F x y=some d:=by
 unfold d2 at h
 cases hx:f δ with
 |none=>rw[hx]at h;cases h
 |some x=>
  rw[hx]at h
  cases hy:g δ with
  |none=>
   have h':((g δ).bind fun y=>F x y)=some d:=h
   rw[hy]at h';cases h'
  |some y=>
   have h':((g δ).bind fun y=>F x y)=some d:=h
   rw[hy]at h'
   exact⟨x,y,rfl,rfl,h'⟩
def Op2(K:aa)(r:R2)(F:D->D->Option D):Prop:=∀(H:Hp) (B:Addr->Prop) (dx dy d:D) (x y:V) (Q:VK),InB B H->Rep K H B dx x->Rep K H B dy y->F dx dy=some d->(∀v H',Same H H'->Rep K H' B d v->Q v H')->r x y H Q
theorem y3s{r:R2}{F:D->D->Option D}{f g:DE}(ho:Op2 X.K r F)(σ:St)(H:Hp)(Q:VK)(h:tD X.K (d2 F f g) σ H Q):tOp r (tD X.K f) (tD X.K g) σ H Q:=by
 obtain⟨B,δ,d,hB,S,q,k⟩:=h
 obtain⟨dx,dy,e1,e2,e3⟩:=z9Y q
 exact⟨B,δ,dx,hB,S,e1,fun v H1 s1 r1=>⟨B,δ,dy,hB.mono s1,S.mono s1,e2,fun u H2 s2 r2=>
  ho H2 B dx dy d v u Q ((hB.mono s1).mono s2) (r1.mono s2) r2 e3 fun z H' s' rz=>k z H' ((s1.trans s2).trans s') rz⟩⟩
theorem x1g{op:Operator}{r:R2}{F:D->D->Option D}{f g:DE}(ho:OpR X (binaryOp op) r)(hD:Op2 X.K r F)(ha:PD X a f)(hb:PD X b g):PD X (.BinOp a op b pos) (d2 F f g):=(x1t ho ha hb).imp (y3s hD)
theorem pd_cmp{op:CmpOp}{r:R2}{F:D->D->Option D}{f g:DE}(ho:OpR X (compareOp op) r)(hD:Op2 X.K r F)(ha:PD X a f)(hb:PD X b g)(hm:fB op b=false):PD X (.Compare a [op] [b] pos) (d2 F f g):=(pe_cmpR ho ha hb hm).imp (y3s hD)
def z0D(f:DE):DS->Option Bool:=fun δ=>match f δ with
 |some (.bl b)=>some b
 |_=>none
theorem y5X{f:DE}{δ:DS}{b:Bool}(h:z0D f δ=some b):f δ=some (.bl b):=by
 unfold z0D at h
 split at h
 ·rename_i b' e
  cases h;exact e
 ·cases h
theorem test_of{t:TE}{f:DE}(h:∀σ H Q,tD X.K f σ H Q->t σ H Q)(σ:St)(H:Hp)(Q:Bool->Hp->Prop)(q:tT X.K (z0D f) σ H Q):tTest t σ H Q:=by
 obtain⟨B,δ,b,hB,S,q,k⟩:=q
 refine h σ H _ ⟨B,δ,.bl b,hB,S,y5X q,fun v H' s r=>?_⟩
 exact⟨b,r,k H' s⟩
theorem z6g{op:CmpOp}{r:R2}{F:D->D->Option D}{f g:DE}(ho:OpR X (compareOp op) r)(hD:Op2 X.K r F)(ha:PD X a f)(hb:PD X b g)(hm:fB op b=false):PTD X (.Compare a [op] [b] pos) (z0D (d2 F f g)):=(pt_cmpR ho ha hb hm).imp (test_of (y3s hD))
def z8J(F G:D->D->Option D)(f g h:DE):DE:=fun δ=>(f δ).bind fun x=>(g δ).bind fun y=>match F x y with
 |some (.bl true)=>(h δ).bind fun z=>G y z
 |some (.bl false)=>some (.bl false)
 |_=>none
theorem z6W{r r':R2}{F G:D->D->Option D}{f g h:DE}(ho:Op2 X.K r F)(ho':Op2 X.K r' G)(σ:St)(H:Hp)(Q:VK)(q:tD X.K (z8J F G f g h) σ H Q):x3H r r' (tD X.K f) (tD X.K g) (tD X.K h) σ H Q:=by
 obtain⟨B,δ,d,hB,S,q,k⟩:=q
 unfold z8J at q
 cases e1:f δ with
 |none=>rw[e1]at q;cases q
 |some x=>
  rw[e1]at q
  cases e2:g δ with
  |none=>
   have q':((g δ).bind _)=some d:=q
   rw[e2]at q';cases q'
  |some y=>
   have q':((g δ).bind _)=some d:=q
   rw[e2]at q'
   have q2:(match F x y with | some (.bl true)=>(h δ).bind fun z=>G y z | some (.bl false)=>some (.bl false) | _=>none)=some d:=q'
   refine⟨B,δ,x,hB,S,e1,fun v H1 s1 r1=>⟨B,δ,y,hB.mono s1,S.mono s1,e2,fun u H2 s2 r2=>?_⟩⟩
   split at q2
   ·rename_i e3
    refine ho H2 B x y _ v u _ ((hB.mono s1).mono s2) (r1.mono s2) r2 e3 fun z H3 s3 r3=>⟨true,r3,?_⟩
    rw[if_pos rfl]
    cases e4:h δ with
    |none=>rw[e4]at q2;cases q2
    |some w=>
     rw[e4]at q2
     have q4:G y w=some d:=q2
     refine⟨B,δ,w,((hB.mono s1).mono s2).mono s3,((S.mono s1).mono s2).mono s3,e4,fun t H4 s4 r4=>?_⟩
     exact ho' H4 B y w d u t Q ((((hB.mono s1).mono s2).mono s3).mono s4) ((r2.mono s3).mono s4) r4 q4 fun z' H' s' rz=>k z' H' ((((s1.trans s2).trans s3).trans s4).trans s') rz
   ·rename_i e3
    cases q2
    refine ho H2 B x y _ v u _ ((hB.mono s1).mono s2) (r1.mono s2) r2 e3 fun z H3 s3 r3=>⟨false,r3,?_⟩
    rw[if_neg av]
    exact k _ H3 ((s1.trans s2).trans s3) rfl
   ·cases q2
theorem x1C{op op':CmpOp}{r r':R2}{F G:D->D->Option D}{f g h:DE}(ho:OpR X (compareOp op) r)(ho':OpR X (compareOp op') r')(hF:Op2 X.K r F)(hG:Op2 X.K r' G)(ha:PD X a f)(hb:PD X b g)(hc:PD X c h)
  (hm:lastMarks [op,op'] [b,c]=false:=by with_unfolding_all rfl):PD X (.Compare a [op,op'] [b,c] pos) (z8J F G f g h):=(x0t ho ho' ha hb hc hm).imp (z6W hF hG)
def iop(F:Int->Int->Option D):D->D->Option D
 |.int i,.int j=>F i j
 |_,_=>none
theorem y0e{F:Int->Int->Option D}{x y d:D}(h:iop F x y=some d):∃i j,x = .int i∧y = .int j∧F i j=some d:=by
 unfold iop at h
 split at h
 ·exact⟨_,_,rfl,rfl,h⟩
 ·cases h
theorem y9R{K:aa}{C:Int->Int->Prop}[∀i j,Decidable (C i j)]{g:Int->Int->Int}:Op2 K (rI C fun i j=>.int (g i j)) (iop fun i j=>if C i j then some (.int (g i j))else none):=by
 intro H B dx dy d x y Q hB hx hy q k
 obtain⟨i,j,rfl,rfl,q2⟩:=y0e q
 by_cases hc:C i j
 ·rw[if_pos hc]at q2
  cases q2
  exact⟨i,j,hx,hy,hc,k _ H (.refl H) rfl⟩
 ·rw[if_neg hc]at q2
  cases q2
theorem o2_int0{K:aa}{g:Int->Int->Int}:Op2 K (rI0 fun i j=>.int (g i j)) (iop fun i j=>some (.int (g i j))):=by
 intro H B dx dy d x y Q hB hx hy q k
 obtain⟨i,j,rfl,rfl,q2⟩:=y0e q
 cases q2
 exact⟨i,j,hx,hy,k _ H (.refl H) rfl⟩
theorem z7a{K:aa}{g:Int->Int->Bool}:Op2 K (rI0 fun i j=>.bl (g i j)) (iop fun i j=>some (.bl (g i j))):=by
 intro H B dx dy d x y Q hB hx hy q k
 obtain⟨i,j,rfl,rfl,q2⟩:=y0e q
 cases q2
 exact⟨i,j,hx,hy,k _ H (.refl H) rfl⟩
def d1(F:D->Option D)(f:DE):DE:=fun δ=>(f δ).bind F
theorem y6m{F:D->Option D}{f:DE}{δ:DS}{d:D}(h:d1 F f δ=some d):∃x,f δ=some x∧F x=some d:=by
 unfold d1 at h
 cases hx:f δ with
 |none=>rw[hx]at h;cases h
 |some x=>rw[hx]at h;exact⟨x,rfl,h⟩
def x1S:D->Option D
 |.int i=>some (.int (-i))
 |_=>none
theorem y3q{f:DE}(h:PD X a f):PD X (.UnaryOp .USub a pos) (d1 x1S f):=(pe_un un_neg h).imp fun σ H Q ⟨B,δ,d,hB,S,q,k⟩=>by
 obtain⟨x,e1,e2⟩:=y6m q
 refine⟨B,δ,x,hB,S,e1,fun v H' s r=>?_⟩
 unfold x1S at e2
 split at e2
 ·cases e2
  exact⟨_,r,k _ H' s rfl⟩
 ·cases e2
def z5S:D->Option Bool
 |.non=>some false
 |.bl b=>some b
 |.int i=>some (i != 0)
 |.str x=>if x.length≤sizeLine then some ((x.length:Int) != 0)else none
 |.lst ds=>some (!ds.isEmpty)
 |.tup ds=>some (!ds.isEmpty)
 |.scr ns=>some (!ns.isEmpty)
 |.dct ks _=>some (!ks.isEmpty)
 |.exc _=>none
 |.obj _ _ _ _=>none
 |.cel _ _=>none
def z0v(f:DE):DS->Option Bool:=fun δ=>(f δ).bind z5S
theorem y3L{K:aa}{H:Hp}{B:Addr->Prop}{ds:List D}{xs:List V}(h:Reps K H B ds xs):(!ds.isEmpty) = !xs.isEmpty:=by
 have:=h.length
 cases ds <;> cases xs <;> simp_all
theorem y8Y{K:aa}{H:Hp}{B:Addr->Prop}{d:D}{v:V}{k:Bool}(h:Rep K H B d v)(e:z5S d=some k):TruV K v H k:=by
 cases d with
 |non=>cases h;cases e;rfl
 |bl b=>cases h;cases e;rfl
 |int i=>cases h;cases e;rfl
 |str x=>
  cases h
  have e':(if x.length≤sizeLine then some ((x.length:Int) != 0)else none)=some k:=e
  by_cases hl:x.length≤sizeLine
  ·rw[if_pos hl]at e'
   cases e'
   exact⟨hl,rfl⟩
  ·rw[if_neg hl]at e'
   cases e'
 |lst ds=>
  unfold Rep at h
  obtain⟨a,xs,rfl,_,s,r⟩:=h
  cases e
  exact .inl ⟨xs,SqL.of s,y3L r⟩
 |tup ds=>
  unfold Rep at h
  obtain⟨a,xs,rfl,s,r⟩:=h
  cases e
  exact .inr (.inl ⟨xs,s,y3L r⟩)
 |scr ns=>
  unfold Rep at h
  obtain⟨a,rfl,s⟩:=h
  cases e
  exact .inl ⟨_,s.sq,by cases ns <;> rfl⟩
 |dct ks ds=>
  unfold Rep at h
  obtain⟨a,kvs,rfl,_,s,q,r⟩:=h
  cases e
  refine .inr (.inr ⟨kvs,s,?_⟩)
  rw[←q]
  cases kvs <;> rfl
 |exc _=>cases e
 |obj _ _ _ _=>cases e
 |cel _ _=>cases e
theorem z0n{f:DE}(h:PD X a f)(he:∀whole,isTrue a X.env whole=(do let v ←whole;standAt a.pos;holding [v] (truthy v)):=by intro _;rfl):PTD X a (z0v f):=(x1O h he).imp fun σ H Q ⟨B,δ,k,hB,S,q,kk⟩=>by
 unfold z0v at q
 cases e:f δ with
 |none=>rw[e]at q;cases q
 |some d=>
  rw[e]at q
  exact⟨B,δ,d,hB,S,e,fun v H' s r=>⟨k,y8Y r q,kk H' s⟩⟩
def z3T(f g:DS->Option Bool):DS->Option Bool:=fun δ=>(f δ).bind fun c=>if c=true then g δ else some false
def z9S(f g:DS->Option Bool):DS->Option Bool:=fun δ=>(f δ).bind fun c=>if c=true then some true else g δ
def z2B(f:DS->Option Bool):DS->Option Bool:=fun δ=>(f δ).map (!·)
theorem z3D{f:DS->Option Bool}(h:PTD X a f):PWD X (.BoolOp .And [a] pos) f:=pw_and1 h
theorem z3a{f:DS->Option Bool}(h:PTD X a f):PWD X (.BoolOp .Or [a] pos) f:=pw_or1 h
theorem z4c{rest:List Expr}{f g:DS->Option Bool}(ha:PTD X a f)(hb:PWD X (.BoolOp .And (b::rest) pos) g):PWD X (.BoolOp .And (a::b::rest) pos) (z3T f g):=(pw_and ha hb).imp fun σ H Q ⟨B,δ,k,hB,S,q,kk⟩=>by
 unfold z3T at q
 cases e:f δ with
 |none=>rw[e]at q;cases q
 |some c=>
  rw[e]at q
  refine⟨B,δ,c,hB,S,e,fun H1 s1=>?_⟩
  have q':(if c=true then g δ else some false)=some k:=q
  cases c with
  |true=>
   rw[if_pos rfl]at q'
   refine iteT ?_
   exact⟨B,δ,k,hB.mono s1,S.mono s1,q',fun H2 s2=>kk H2 (s1.trans s2)⟩
  |false=>
   rw[if_neg av]at q'
   refine iteF ?_
   cases q'
   exact kk H1 s1
theorem z4g{rest:List Expr}{f g:DS->Option Bool}(ha:PTD X a f)(hb:PWD X (.BoolOp .Or (b::rest) pos) g):PWD X (.BoolOp .Or (a::b::rest) pos) (z9S f g):=(pw_or ha hb).imp fun σ H Q ⟨B,δ,k,hB,S,q,kk⟩=>by
 unfold z9S at q
 cases e:f δ with
 |none=>rw[e]at q;cases q
 |some c=>
  rw[e]at q
  refine⟨B,δ,c,hB,S,e,fun H1 s1=>?_⟩
  have q':(if c=true then some true else g δ)=some k:=q
  cases c with
  |true=>
   rw[if_pos rfl]at q'
   refine iteT ?_
   cases q'
   exact kk H1 s1
  |false=>
   rw[if_neg av]at q'
   refine iteF ?_
   exact⟨B,δ,k,hB.mono s1,S.mono s1,q',fun H2 s2=>kk H2 (s1.trans s2)⟩
theorem z1t{f:DS->Option Bool}(h:PTD X a f):PTD X (.UnaryOp .Not a pos) (z2B f):=(pt_not h).imp fun σ H Q ⟨B,δ,k,hB,S,q,kk⟩=>by
 unfold z2B at q
 cases e:f δ with
 |none=>rw[e]at q;cases q
 |some c=>
  rw[e]at q
  cases q
  exact⟨B,δ,c,hB,S,e,kk⟩
def x3u(f g:DE):DE:=fun δ=>match f δ with
 |some (.bl true)=>g δ
 |some (.bl false)=>some (.bl false)
 |_=>none
def uNot:D->Option D
 |.bl b=>some (.bl (!b))
 |_=>none
theorem y8c{op}{f:DE}(h:PD X a f):PD X (.BoolOp op [a] pos) f:=pe_one h
theorem y4v{rest:List Expr}{f g:DE}(ha:PD X a f)(hb:PD X (.BoolOp .And (b::rest) pos) g):PD X (.BoolOp .And (a::b::rest) pos) (x3u f g):=(pe_and ha hb).imp fun σ H Q ⟨B,δ,d,hB,S,q,k⟩=>by
 unfold x3u at q
 split at q
 ·rename_i e
  refine⟨B,δ,.bl true,hB,S,e,fun v H1 s1 r=>⟨true,r,?_⟩⟩
  rw[if_pos rfl]
  exact⟨B,δ,d,hB.mono s1,S.mono s1,q,fun v2 H2 s2 r2=>k v2 H2 (s1.trans s2) r2⟩
 ·rename_i e
  cases q
  refine⟨B,δ,.bl false,hB,S,e,fun v H1 s1 r=>⟨false,r,?_⟩⟩
  rw[if_neg av]
  exact k _ H1 s1 rfl
 ·cases q
theorem x2T{f:DE}(h:PD X a f):PD X (.UnaryOp .Not a pos) (d1 uNot f):=(pe_not h).imp fun σ H Q ⟨B,δ,d,hB,S,q,k⟩=>by
 obtain⟨x,e1,e2⟩:=y6m q
 refine⟨B,δ,x,hB,S,e1,fun v H' s r=>?_⟩
 unfold uNot at e2
 split at e2
 ·cases e2
  exact⟨_,r,k _ H' s rfl⟩
 ·cases e2
def dIf(c:DS->Option Bool)(f g:DE):DE:=fun δ=>(c δ).bind fun k=>if k=true then f δ else g δ
theorem pd_if{t:DS->Option Bool}{f g:DE}(hc:PTD X c t)(ha:PD X a f)(hb:PD X b g):PD X (.IfExp c a b pos) (dIf t f g):=(x2a hc ha hb).imp fun σ H Q ⟨B,δ,d,hB,S,q,k⟩=>by
 unfold dIf at q
 cases e:t δ with
 |none=>rw[e]at q;cases q
 |some c=>
  rw[e]at q
  refine⟨B,δ,c,hB,S,e,fun H1 s1=>?_⟩
  have q':(if c=true then f δ else g δ)=some d:=q
  cases c with
  |true=>
   rw[if_pos rfl]at q'
   refine iteT ?_
   exact⟨B,δ,d,hB.mono s1,S.mono s1,q',fun v2 H2 s2 r2=>k v2 H2 (s1.trans s2) r2⟩
  |false=>
   rw[if_neg av]at q'
   refine iteF ?_
   exact⟨B,δ,d,hB.mono s1,S.mono s1,q',fun v2 H2 s2 r2=>k v2 H2 (s1.trans s2) r2⟩
def z0j:List DE->DS->Option (List D)
 |[],_=>some []
 |f::r,δ=>(f δ).bind fun x=>(z0j r δ).bind fun xs=>some (x::xs)
theorem z6v{f:DE}{r:List DE}{δ:DS}{ds:List D}(h:z0j (f::r) δ=some ds):∃x xs,f δ=some x∧z0j r δ=some xs∧ds=x::xs:=by
 unfold z0j at h
 cases hx:f δ with
 |none=>rw[hx]at h;cases h
 |some x=>
  rw[hx]at h
  have h':((z0j r δ).bind fun xs=>some (x::xs))=some ds:=h
  cases hy:z0j r δ with
  |none=>rw[hy]at h';cases h'
  |some xs=>
   rw[hy]at h'
   cases h'
   exact⟨x,xs,rfl,rfl,rfl⟩
theorem z2Y:∀{fl:List DE} {δ:DS} {ds:List D},z0j fl δ=some ds->ds.length=fl.length
 |[],_,_,h=>by cases h;rfl
 |f::r,δ,ds,h=>by
  obtain⟨x,xs,_,e,rfl⟩:=z6v h
  simp[z2Y e]
abbrev PAD(X:Cx)(es:List Expr)(fl:List DE):Prop:=PA X es (tDs X.K (z0j fl))
theorem z0d:PAD X [] []:=pa_nil.imp fun σ H Q ⟨B,δ,ds,hB,S,q,k⟩=>by
 cases q
 exact k [] H (.refl H) .nil
theorem z0a{f:DE}{fl:List DE}(ha:PD X e f)(hr:PAD X es fl)(hs:starEach (e::es) X.env=(false,eval e X.env)::starEach es X.env:=by rfl):PAD X (e::es) (f::fl):=(z1e ha hr hs).imp fun σ H Q ⟨B,δ,ds,hB,S,q,k⟩=>by
 obtain⟨x,xs,e1,e2,rfl⟩:=z6v q
 exact⟨B,δ,x,hB,S,e1,fun v H1 s1 r1=>⟨B,δ,xs,hB.mono s1,S.mono s1,e2,fun vs H2 s2 r2=>k (v::vs) H2 (s1.trans s2) (.cons (r1.mono s2) r2)⟩⟩
theorem z0x{fl:List DE}(h:PAD X es fl)(hl:fl.length≤1000:=by decide):PF X (.List es pos) (z0j fl):=(y6t h).imp fun σ H Q ⟨B,δ,ds,hB,S,q,k⟩=>by
 refine⟨B,δ,ds,hB,S,q,fun vs H1 s1 r1=>⟨?_,fun p hp=>?_⟩⟩
 ·rw[←r1.length,z2Y q]
  exact cq (z7o hl)
 ·exact k p vs _ (s1.trans (z0s hp)) (s1.free hp) z0r (r1.mono (z0s hp))
def mkT(f:DS->Option (List D)):DE:=fun δ=>(f δ).map .tup
theorem z1J{x1}{fl:List DE}(h:PAD X es fl)(hl:fl.length≤1000:=by decide):PD X (.Tuple es x1 pos) (mkT (z0j fl)):=(pe_tup h).imp fun σ H Q ⟨B,δ,d,hB,S,q,k⟩=>by
 unfold mkT at q
 cases r:z0j fl δ with
 |none=>rw[r]at q;cases q
 |some ds=>
  rw[r]at q
  cases q
  refine⟨B,δ,ds,hB,S,r,fun vs H1 s1 r1=>⟨?_,fun p hp=>?_⟩⟩
  ·rw[←r1.length,z2Y r]
   exact cq (z7o hl)
  ·refine k _ _ (s1.trans (z0s hp)) ?_
   unfold Rep
   exact⟨p,vs,rfl,SqT.of z0r,r1.mono (z0s hp)⟩
def ixD:D->D->Option D
 |.lst ds,.int i=>atI ds i
 |.tup ds,.int i=>atI ds i
 |.scr ns,.int i=>(atI ns i).map .int
 |_,_=>none
theorem atI_map{α β:Type}(f:α->β)(xs:List α)(i:Int):atI (xs.map f) i=(atI xs i).map f:=by
 unfold atI
 rw[ao]
 cases ixN xs.length i with
 |none=>rfl
 |some j=>simp
theorem y3N{K:aa}{H:Hp}{B:Addr->Prop}{ds:List D}{xs:List V}{i:Int}{d:D}(h:Reps K H B ds xs)(e:atI ds i=some d):∃x,atI xs i=some x∧Rep K H B d x:=by
 unfold atI at e ⊢
 rw[←h.length]
 cases q:ixN ds.length i with
 |none=>rw[q]at e;cases e
 |some j=>
  rw[q]at e
  exact h.get e
theorem o2_ix{K:aa}:Op2 K (rIx K) ixD:=by
 intro H B dx dy d x y Q hB hx hy q k
 unfold ixD at q
 split at q
 ·unfold Rep at hx
  obtain⟨a,xs,rfl,_,s,r⟩:=hx
  obtain⟨v,e,rv⟩:=y3N r q
  exact .inl ⟨a,xs,_,v,rfl,hy,SqL.of s,e,k v H (.refl H) rv⟩
 ·unfold Rep at hx
  obtain⟨a,xs,rfl,s,r⟩:=hx
  obtain⟨v,e,rv⟩:=y3N r q
  exact .inr (.inl ⟨a,xs,_,v,rfl,hy,s,e,k v H (.refl H) rv⟩)
 ·rename_i ns i
  unfold Rep at hx
  obtain⟨a,rfl,s⟩:=hx
  cases e:atI ns i with
  |none=>rw[e]at q;cases q
  |some n=>
   rw[e]at q
   cases q
   exact .inl ⟨a,_,_,.int n,rfl,hy,s.sq,by rw[atI_map,e];rfl,k _ H (.refl H) rfl⟩
 ·cases q
theorem z0t{f g:DE}(ha:PD X a f)(hb:PD X b g)(hs:z7V b:=by intro _ _;rfl):PD X (.Subscript a b pos) (d2 ixD f g):=(x2g x3i ha hb hs).imp (y3s o2_ix)
def spR(K:aa)(F:List D->Option D):Sp:=fun vs H Q _=>∃B ds d,InB B H∧Reps K H B ds vs∧F ds=some d∧∀v H',Same H H'->Rep K H' B d v->Q v H'
def spN(K:aa)(F:List D->Option D):Sp:=fun vs H Q _=>∃ds d,Reps K H noB ds vs∧F ds=some d∧∀v H' A,Same H H'->Tree K H' d v A->A.Nodup->(∀a∈A,H a=none)->Q v H'
structure DefOk(P:fw)(w:fx)(K:aa)(mg:Str->Option Value)(base:Heap)(k:Nat)(x:Str)(sp:Sp):Prop where
 ok:∃(f:Addr) (fd:fy) (ps:List Str),mg x=some (.ref f)∧bB K (.ref f)=true∧Binds K fd ps []∧FnOk P w K mg base CX0 k f fd ps sp
def z0k(F:List D->Option D)(fl:List DE):DE:=fun δ=>(z0j fl δ).bind F
theorem z6A{F:List D->Option D}{fl:List DE}{δ:DS}{d:D}(h:z0k F fl δ=some d):∃ds,z0j fl δ=some ds∧F ds=some d:=by
 unfold z0k at h
 cases q:z0j fl δ with
 |none=>rw[q]at h;cases h
 |some ds=>rw[q]at h;exact⟨ds,rfl,h⟩
end
section
variable{X:Cx}{e a b c:Expr}{es:List Expr}{pos p:Pos}{x:Str}{k:Nat}{tg iter elt:Expr}
theorem y0g{sp:Sp}{t:TA}(G:DefOk X.prog X.w X.K X.mg X.base k x sp)(hr:Room k X.A)(hg:Gl X x)(ha:PA X (e::es) t)(hdb:(x==("__debug__" : Str))=false:=by decide)
  (he:starEach (e::es) X.env=(false,eval e X.env)::starEach es X.env:=by rfl) (hpl:(fD pos (starEach es X.env)).any (·.1)=false:=by rfl):PE X (.Call (.Name x p) (e::es) [] pos) (tCall sp [] E0 t):=by
 obtain⟨f,fd,ps,hm,hk,hb,ok⟩:=G.ok
 exact pe_call ok hr hg hm hk hb .nil pass0 ha hdb he hpl
theorem z2v{F:List D->Option D}{fl:List DE}(G:DefOk X.prog X.w X.K X.mg X.base k x (spR X.K F))(hr:Room k X.A)(hg:Gl X x)(ha:PAD X (e::es) fl)(hdb:(x==("__debug__" : Str))=false:=by decide)
  (he:starEach (e::es) X.env=(false,eval e X.env)::starEach es X.env:=by rfl) (hpl:(fD pos (starEach es X.env)).any (·.1)=false:=by rfl):PD X (.Call (.Name x p) (e::es) [] pos) (z0k F fl):=
 (y0g G hr hg ha hdb he hpl).imp fun σ H Q ⟨B,δ,d,hB,S,q,k⟩=>by
  obtain⟨ds,e1,e2⟩:=z6A q
  refine⟨B,δ,ds,hB,S,e1,fun vs H1 s1 r1=>?_⟩
  show spR X.K F (vs++[]) H1 Q E0
  rw[aF]
  exact⟨B,ds,d,hB.mono s1,r1,e2,fun v H' s' r=>k v H' (s1.trans s') r⟩
theorem z0m{F:List D->Option D}{fl:List DE}(G:DefOk X.prog X.w X.K X.mg X.base k x (spN X.K F))(hr:Room k X.A)(hg:Gl X x)(ha:PAD X (e::es) fl)(hdb:(x==("__debug__" : Str))=false:=by decide)
  (he:starEach (e::es) X.env=(false,eval e X.env)::starEach es X.env:=by rfl) (hpl:(fD pos (starEach es X.env)).any (·.1)=false:=by rfl):PN X (.Call (.Name x p) (e::es) [] pos) (z0k F fl):=
 (y0g G hr hg ha hdb he hpl).imp fun σ H Q ⟨δ,d,S,q,k⟩=>by
  obtain⟨ds,e1,e2⟩:=z6A q
  refine⟨noB,δ,ds,.no,S,e1,fun vs H1 s1 r1=>?_⟩
  show spN X.K F (vs++[]) H1 Q E0
  rw[aF]
  exact⟨ds,d,r1,e2,fun v H' A s' t nd fr=>k v H' A (s1.trans s') t nd fun a ha=>s1.free (fr a ha)⟩
structure ItD(K:aa)(J:It)(H:Hp)(B:Addr->Prop)(ds:List D):Prop where
 go:∀i H',Keep K B H H'->i<ds.length->J.go i H'
 stop:∀i H',Keep K B H H'->ds.length≤i->J.stop i H'
 yld:∀i H' x H2,Keep K B H H'->J.yld i H' x H2->Same H' H2∧∃d,(i<ds.length->ds[i]? = some d)∧Rep K H2 B d x
def ItW(K:aa)(J:It)(H:Hp)(B:Addr->Prop)(ds:List D):Prop:=∀C:Addr->Prop,(∀a,C a->H a=none)->ItD K J H (fun a=>B a∨C a) ds
def tI(K:aa)(f:DS->Option (List D)):TI:=fun σ H R=>∃B δ ds,InB B H∧RepS K H B σ δ∧f δ=some ds∧∀J H',Same H H'->ItW K J H' B ds->R J H'
abbrev PID(X:Cx)(tg iter:Expr)(f:DS->Option (List D)):Prop:=PI X tg iter (tI X.K f)
theorem PI.imp{wi wi':TI}(h:PI X tg iter wi)(w:∀σ H R,wi' σ H R->wi σ H R):PI X tg iter wi':=fun pins s σ H R I q=>h pins s σ H R I (w σ H R q)
def iSeq(K:aa)(tl:TE):TI:=fun σ H R=>tl σ H fun x H1=>∃a,x = .ref a∧(((∃xs,SqL K H1 a xs)∧R (Itl K a) H1)∨((∃xs,SqT K H1 a xs)∧R (Itt K a) H1))
theorem x2V{l:Expr}{tl:TE}(hl:PE X l tl):PI X tg l (iSeq X.K tl):=by
 intro pins s σ H R I h
 refine thn (hl pins s σ H _ I h) fun v s1 ⟨x,H1,I1,r1,q1⟩=>?_
 obtain⟨a,e,q1⟩:=q1
 subst e
 cases r1
 have fp:∀b∈[s1.heap.objs.size],y0B X pins H1 b:=fun b hb=>by
  have e:b=s1.heap.objs.size:=by simpa using hb
  subst e
  exact I1.fpOk (ar _) (I1.hok.fresh (ar _))
 rcases q1 with⟨⟨xs,hq⟩,q⟩ | ⟨⟨xs,hq⟩,q⟩
 ·obtain⟨its,rv,p,hz⟩:=I1.list hq
  refine wpAny_pyIter_list p.isList ?_
  exact⟨s1.heap.objs.size,[s1.heap.objs.size],_,_,H1,rfl,I1.kept (t':=s1.toks) fun b o e=>Heap.get?_push_of_some _ e,y7f a _,⟨_,Heap.get?_push_size _ rfl,rfl,rfl⟩,fp,q⟩
 ·obtain⟨its,rv,p,hz⟩:=I1.tuple hq
  refine wpAny_pyIter_tuple (show s1.heap.IsTuple a its.toArray from p) ?_
  exact⟨s1.heap.objs.size,[s1.heap.objs.size],_,_,H1,rfl,I1.kept (t':=s1.toks) fun b o e=>Heap.get?_push_of_some _ e,y5S a _,⟨_,Heap.get?_push_size _ rfl,rfl,rfl⟩,fp,q⟩
def y4R:D->Option (List D)
 |.lst ds=>some ds
 |.tup ds=>some ds
 |.scr ns=>some (ns.map .int)
 |_=>none
def z4K(f:DE):DS->Option (List D):=fun δ=>(f δ).bind y4R
theorem x1D{K:aa}{H:Hp}{B:Addr->Prop}{a:Addr}{xs:List V}{ds:List D}(n:¬ B a)(h:H a=some (.lst xs))(r:Reps K H B ds xs):ItD K (Itl K a) H B ds:=by
 have hl:=r.length
 refine⟨fun i H' kp hi=>?_,fun i H' kp hi=>?_,fun i H' x H2 kp y=>?_⟩
 ·exact⟨xs,xs[i],SqL.of (kp.sl a xs n h),by rw[am]⟩
 ·exact⟨xs,SqL.of (kp.sl a xs n h),by omega⟩
 ·obtain⟨e,y⟩:=y
  subst e
  have hx:=y xs (SqL.of (kp.sl a xs n h))
  obtain⟨d,e,rd⟩:=(Reps.keep kp ds r).get' hx
  exact⟨.refl _,d,fun _=>e,rd⟩
theorem itd_tup{K:aa}{H:Hp}{B:Addr->Prop}{a:Addr}{xs:List V}{ds:List D}(h:SqT K H a xs)(r:Reps K H B ds xs):ItD K (Itt K a) H B ds:=by
 have hl:=r.length
 refine⟨fun i H' kp hi=>?_,fun i H' kp hi=>?_,fun i H' x H2 kp y=>?_⟩
 ·exact⟨xs,xs[i],kp.st a xs h,by rw[am]⟩
 ·exact⟨xs,kp.st a xs h,by omega⟩
 ·obtain⟨e,y⟩:=y
  subst e
  have hx:=y xs (kp.st a xs h)
  obtain⟨d,e,rd⟩:=(Reps.keep kp ds r).get' hx
  exact⟨.refl _,d,fun _=>e,rd⟩
theorem z1G{K:aa}{H:Hp}{B:Addr->Prop}:∀ns:List Int,Reps K H B (ns.map D.int) (ns.map V.int)
 |[]=>.nil
 |n::ns=>.cons rfl (z1G ns)
theorem itd_scr{K:aa}{H:Hp}{B:Addr->Prop}{a:Addr}{ns:List Int}(h:SqF K H a (ns.map V.int)):ItD K (Itl K a) H B (ns.map D.int):=by
 have r:∀H',Reps K H' B (ns.map D.int) (ns.map V.int):=fun _=>z1G ns
 refine⟨fun i H' kp hi=>?_,fun i H' kp hi=>?_,fun i H' x H2 kp y=>?_⟩
 ·exact⟨ns.map V.int,(ns.map V.int)[i]'(by simpa using hi),(kp.sf a _ h).sq,by rw[am]⟩
 ·exact⟨ns.map V.int,(kp.sf a _ h).sq,by simpa using hi⟩
 ·obtain⟨e,y⟩:=y
  subst e
  have hx:=y _ (kp.sf a _ h).sq
  obtain⟨d,e,rd⟩:=(r _).get' hx
  exact⟨.refl _,d,fun _=>e,rd⟩
theorem z0H{l:Expr}{f:DE}(h:PD X l f):PID X tg l (z4K f):=(x2V h).imp fun σ H R ⟨B,δ,ds,hB,S,q,k⟩=>by
 unfold z4K at q
 cases e:f δ with
 |none=>rw[e]at q;cases q
 |some d=>
  rw[e]at q
  have q':y4R d=some ds:=q
  refine⟨B,δ,d,hB,S,e,fun v H1 s1 r1=>?_⟩
  unfold y4R at q'
  split at q'
  ·cases q'
   unfold Rep at r1
   obtain⟨a,xs,rfl,n,h,r⟩:=r1
   exact⟨a,rfl,.inl ⟨⟨xs,SqL.of h⟩,k _ H1 s1 fun C hC=>x1D (fun z=>z.elim n fun z=>by rw[hC a z]at h;cases h) h (Reps.wide hC _ r)⟩⟩
  ·cases q'
   unfold Rep at r1
   obtain⟨a,xs,rfl,h,r⟩:=r1
   exact⟨a,rfl,.inr ⟨⟨xs,h⟩,k _ H1 s1 fun C hC=>itd_tup h (Reps.wide hC _ r)⟩⟩
  ·cases q'
   unfold Rep at r1
   obtain⟨a,rfl,h⟩:=r1
   exact⟨a,rfl,.inl ⟨⟨_,h.sq⟩,k _ H1 s1 fun C hC=>itd_scr h⟩⟩
  ·cases q'
def z5y(lo:Int)(n:Nat):List D:=(ah n).map fun i=>.int (lo+(i:Nat))
theorem x2q{lo:Int}{n i:Nat}(h:i<n):(z5y lo n)[i]? = some (.int (lo+i)):=by
 unfold z5y
 rw[aG,cI h]
 rfl
theorem z5x(lo:Int)(n:Nat):(z5y lo n).length=n:=by unfold z5y;rw[ao,bJ]
theorem y9K{K:aa}{H:Hp}{B:Addr->Prop}{lo:Int}{n:Nat}:ItD K (Itr lo n) H B (z5y lo n):=by
 refine⟨fun i H' _ hi=>?_,fun i H' _ hi=>?_,fun i H' x H2 _ y=>?_⟩
 ·rw[z5x]at hi;exact hi
 ·rw[z5x]at hi;exact hi
 ·obtain⟨e,y⟩:=y
  subst e y
  exact⟨.refl _,.int (lo+i),fun h=>x2q (by rwa [z5x]at h),rfl⟩
def z1j(f:DE):DS->Option (List D):=fun δ=>match f δ with
 |some (.int j)=>if -(2 ^ 62)≤j∧j<2 ^ 62 then some (z5y 0 j.toNat)else none
 |_=>none
def x1B(f g:DE):DS->Option (List D):=fun δ=>match f δ,g δ with
 |some (.int i),some (.int j)=>if -(2 ^ 62)≤i∧i<2 ^ 62∧-(2 ^ 62)≤j∧j<2 ^ 62 then some (z5y i (j - i).toNat)else none
 |_,_=>none
theorem z0V{f:DE}(hg:Gl X "range")(hm:X.mg "range" = none)(ha:PD X a f)(hs:starEach [a] X.env=[(false,eval a X.env)]:=by rfl):PID X tg (.Call (.Name "range" p) [a] [] pos) (z1j f):=
 (y9X hg hm (z0a ha z0d hs) hs).imp fun σ H R ⟨B,δ,ds,hB,S,q,k⟩=>by
  unfold z1j at q
  split at q
  ·rename_i j e
   split at q
   ·rename_i hj
    cases q
    have ea:z0j [f] δ=some [.int j]:=by unfold z0j;rw[e];rfl
    refine⟨B,δ,[.int j],hB,S,ea,fun vs H1 s1 r1=>?_⟩
    unfold Reps at r1
    obtain⟨x,r,rfl,rx,rr⟩:=r1
    unfold Reps at rr
    subst rr
    exact⟨j,by rw[show x=V.int j from rx],hj.1,hj.2,k _ H1 s1 fun C _=>y9K⟩
   ·cases q
  ·cases q
theorem pi_rng2{f g:DE}(hg:Gl X "range")(hm:X.mg "range" = none)(ha:PD X a f)(hb:PD X b g)(hs:starEach [a,b] X.env=[(false,eval a X.env),(false,eval b X.env)]:=by rfl)(hs2:starEach [b] X.env=[(false,eval b X.env)]:=by rfl):
  PID X tg (.Call (.Name "range" p) [a,b] [] pos) (x1B f g):=
 (y6U hg hm (z0a ha (z0a hb z0d hs2) (by rw[hs,hs2])) hs hs2).imp fun σ H R ⟨B,δ,ds,hB,S,q,k⟩=>by
  unfold x1B at q
  split at q
  ·rename_i i j e e'
   split at q
   ·rename_i hj
    cases q
    have ea:z0j [f,g] δ=some [.int i,.int j]:=by unfold z0j z0j;rw[e,e'];rfl
    refine⟨B,δ,[.int i,.int j],hB,S,ea,fun vs H1 s1 r1=>?_⟩
    unfold Reps at r1
    obtain⟨x,r,rfl,rx,rr⟩:=r1
    unfold Reps at rr
    obtain⟨y,r',rfl,ry,rr⟩:=rr
    unfold Reps at rr
    subst rr
    exact⟨i,j,by rw[show x=V.int i from rx,show y=V.int j from ry],hj,k _ H1 s1 fun C _=>y9K⟩
   ·cases q
  ·cases q
def x0s:Option D->List D->List D
 |some y,ys=>y::ys
 |none,ys=>ys
def z1O(h:D->Option (Option D)):List D->Option (List D)
 |[]=>some []
 |x::r=>(h x).bind fun o=>(z1O h r).bind fun ys=>some (x0s o ys)
theorem z6c{h:D->Option (Option D)}{x:D}{r ds:List D}(e:z1O h (x::r)=some ds):∃o ys,h x=some o∧z1O h r=some ys∧ds=x0s o ys:=by
 unfold z1O at e
 cases q:h x with
 |none=>rw[q]at e;cases e
 |some o=>
  rw[q]at e
  have e':((z1O h r).bind fun ys=>some (x0s o ys))=some ds:=e
  cases q':z1O h r with
  |none=>rw[q']at e';cases e'
  |some ys=>
   rw[q']at e'
   exact⟨o,ys,rfl,rfl,(Option.some.inj e').symm⟩
def z1c(fi:DS->Option (List D))(fc:DS->Option Bool)(fe:DE):DS->Option (List D):=fun δ=>(fi δ).bind fun xs=>if xs.length≤sizeLine then
 z1O (fun x=>(fc (δ++[some x])).bind fun k=>if k=true then(fe (δ++[some x])).map some else some none) xs else none
def z5z:DS->Option Bool:=fun _=>some true
theorem z1i{X:Cx}:y6e X [] (tT X.K z5z):=fun pins s σ H Q I ⟨B,δ,b,hB,S,q,k⟩=>x1Q pins s σ H Q I (by cases q;exact k H (.refl H))
theorem z0N{X:Cx}{c:Expr}{f:DS->Option Bool}(h:PTD X c f):y6e X [c] (tT X.K f):=x0D h
theorem RepS.snoc{K:aa}{H:Hp}{B:Addr->Prop}{σ:St}{δ:DS}{d:D}{v:V}(S:RepS K H B σ δ)(r:Rep K H B d v):RepS K H B (σ++[some v]) (δ++[some d]):=by
 refine⟨by simp[S.len],fun i d' e=>?_⟩
 by_cases hi:i<δ.length
 ·rw[aZ hi]at e
  obtain⟨w,e',r'⟩:=S.get i d' e
  exact⟨w,by rw[aZ (by rw[←S.len];exact hi)];exact e',r'⟩
 ·by_cases hj:i=δ.length
  ·subst hj
   rw[bh (ar _),Nat.sub_self]at e
   cases e
   refine⟨v,?_,r⟩
   rw[S.len,bh (ar _),Nat.sub_self]
   rfl
  ·rw[cv (by simp;omega)]at e
   cases e
theorem RepS.wide{K:aa}{H:Hp}{B C:Addr->Prop}{σ:St}{δ:DS}(h:RepS K H B σ δ)(hc:∀a,C a->H a=none):RepS K H (fun a=>B a∨C a) σ δ:=
 ⟨h.len,fun i d q=>let⟨v,a,r⟩:=h.get i d q;⟨v,a,Rep.wide hc d r⟩⟩
theorem z6V{w v:Option V}:∀{σ:St},(σ++[w]).set σ.length v=σ++[v]
 |[]=>rfl
 |x::r=>congrArg (x :: ·) (z6V (σ:=r))
variable{N':List Str}{sc:fI}{ifs:List Expr}{n:Nat}{px:Pos}{fi:DS->Option (List D)}{fc:DS->Option Bool}{fe:DE}
theorem y3p{σ:St}{H:Hp}{Q:VK}(hσ:σ.length=n)(hq:tF X.K (z1c fi fc fe) σ H Q):y5Y (tI X.K fi) (z2w n) (tT X.K fc) (tD X.K fe) 1 σ H Q:=by
 obtain⟨B,δ,ds,hB,Sδ,q,k⟩:=hq
 unfold z1c at q
 cases e1:fi δ with
 |none=>rw[e1]at q;cases q
 |some xs=>
 rw[e1]at q
 have q1:(if xs.length≤sizeLine then z1O (fun x=>(fc (δ++[some x])).bind fun k=>if k=true then(fe (δ++[some x])).map some else some none) xs else none)=some ds:=q
 split at q1
 case isFalse=>cases q1
 case isTrue hsz=>
 refine⟨B,δ,xs,hB,Sδ,e1,fun J H1 s1 itw=>fun Da hD=>?_⟩
 have hD0:H Da=none:=s1.free hD
 have it:=itw (fun a=>a=Da) fun a ha=>by rw[ha];exact hD
 have Sw:RepS X.K H1 (fun a=>B a∨a=Da) σ δ:=(Sδ.mono s1).wide fun a ha=>by rw[ha];exact hD
 refine⟨fun i m σ' H'=>m=xs.length - i∧i≤xs.length∧(∃w,σ'=σ++[w])∧Same H1 H'∧∃ys dn rs,H' Da=some (.lst ys)∧Reps X.K H' (fun a=>B a∨a=Da) dn ys∧ds=dn++rs∧dn.length≤i ∧
  z1O (fun x=>(fc (δ++[some x])).bind fun k=>if k=true then(fe (δ++[some x])).map some else some none) (xs.drop i)=some rs,
  ⟨xs.length,by simp,bn _,⟨none,rfl⟩,z0s hD,[],[],ds,z0r,.nil,rfl,ar _,q1⟩,?_⟩
 rintro i m σ' H' ⟨rfl,hi',⟨w,rfl⟩,sm,ys,dn,rs,hys,rys,hds,hln,hrs⟩
 have kp:Keep X.K (fun a=>B a∨a=Da) H1 H':=.same sm
 by_cases hlt:i<xs.length
 ·refine .inr ⟨it.go i H' kp hlt,fun σ'' H''=>(i+1≤xs.length∧(∃w,σ''=σ++[w])∧Same H1 H''∧∃ys dn rs,H'' Da=some (.lst ys)∧Reps X.K H'' (fun a=>B a∨a=Da) dn ys∧ds=dn++rs∧dn.length≤i+1 ∧
   z1O (fun x=>(fc (δ++[some x])).bind fun k=>if k=true then(fe (δ++[some x])).map some else some none) (xs.drop (i+1))=some rs),fun σ'' H'' h=>⟨xs.length - (i+1),by omega,rfl,h⟩,fun xv H2 hy=>?_⟩
  obtain⟨s2,d,hd,rd⟩:=it.yld i H' xv H2 kp hy
  have hdi:=hd hlt
  have hx:xs.drop i=d::xs.drop (i+1):=by
   obtain⟨hl,e⟩:=aL.mp hdi
   rw[bb hl,e]
  rw[hx]at hrs
  obtain⟨o,rs',e2,e3,e4⟩:=z6c hrs
  show tT X.K fc ((σ++[w]).set n (some xv)) H2 _
  rw[←hσ,z6V]
  have hB1:InB (fun a=>B a∨a=Da) H2:=fun a ha=>ha.elim (fun z=>(((hB.mono s1).mono sm).mono s2) a z) fun z=>⟨_,s2 _ _ (z ▸ hys)⟩
  have S2:RepS X.K H2 (fun a=>B a∨a=Da) (σ++[some xv]) (δ++[some d]):=((Sw.mono sm).mono s2).snoc rd
  have hl2:ys.length<sizeLine:=by
   have:=rys.length
   omega
  cases ec:fc (δ++[some d])with
  |none=>rw[ec]at e2;cases e2
  |some kk=>
   rw[ec]at e2
   have e2':(if kk=true then(fe (δ++[some d])).map some else some none)=some o:=e2
   refine⟨_,δ++[some d],kk,hB1,S2,ec,fun H3 s3=>?_⟩
   cases kk with
   |false=>
    rw[if_neg av]at e2'
    rw[if_neg av]
    cases e2'
    exact⟨hlt,⟨_,rfl⟩,(sm.trans s2).trans s3,ys,dn,rs',s3 _ _ (s2 _ _ hys),(rys.mono s2).mono s3,by rw[hds,e4];rfl,dP hln,e3⟩
   |true=>
    rw[if_pos rfl]at e2'
    rw[if_pos rfl]
    cases ey:fe (δ++[some d])with
    |none=>rw[ey]at e2';cases e2'
    |some y=>
     rw[ey]at e2'
     cases e2'
     refine⟨_,δ++[some d],y,hB1.mono s3,S2.mono s3,ey,fun yv H5 s5 r5=>⟨ys,s5 _ _ (s3 _ _ (s2 _ _ hys)),hl2,?_⟩⟩
     have hu:H5 Da=some (.lst ys):=s5 _ _ (s3 _ _ (s2 _ _ hys))
     refine⟨hlt,⟨_,rfl⟩,fun b u hb=>?_,ys++[yv],dn++[y],rs',z0r,?_,by rw[hds,e4,aP];rfl,by rw[aB];simp;omega,e3⟩
     ·rw[z0y (z1o hb hD)]
      exact s5 _ _ (s3 _ _ (s2 _ _ (sm _ _ hb)))
     ·exact Reps.keep (.upd (.inr rfl) (by rw[hu];exact trivial)) _ (((rys.mono s2).mono s3 |>.mono s5).snoc r5)
 ·have e:i=xs.length:=by omega
  subst e
  refine .inl ⟨it.stop _ H' kp (ar _),?_⟩
  rw[cC]at hrs
  cases hrs
  rw[aF]at hds
  subst hds
  exact k Da ys H' (s1.trans sm) hD0 hys (rys.anti fun a z=>.inl z)
theorem z1Y(hc:X.calm=true)(S:CompScope X.N X.env.scope.names N' 1 sc)(hn:n=X.N.length)(hi:PID X (.Name x px) iter fi)
  (hg:∀s H fp pins E,PG (z0A X N' sc s H fp pins E) (.Name x px) (z2w n)) (ht:∀s H fp pins E,y6e (z0A X N' sc s H fp pins E) ifs (tT X.K fc)) (he:∀s H fp pins E,PE (z0A X N' sc s H fp pins E) elt (tD X.K fe))
  (hs:∀x,foldedSetIterable iter X.env x=pure x:=by intro _;rfl):PF X (.ListComp elt [⟨.Name x px,iter,ifs,0⟩] sc pos) (z1c fi fc fe):=by
 intro pins s σ H Q I hq
 exact y3m hc S hi ⟨hg,ht,he⟩ hs pins s σ H Q I (y3p (by rw[hn,I.len]) hq)
theorem y1E{i:Nat}{y:Str}{py spos:Pos}(hN:X.N.Nodup)(hy:X.N[i]? = some y)(hyl:X.env.scope.names.lookup y=some .local)(hc:X.calm=true)(S:CompScope X.N X.env.scope.names N' 1 sc)(hn:n=X.N.length)(hi:PID X (.Name x px) iter fi)
  (hg:∀s H fp pins E,PG (z0A X N' sc s H fp pins E) (.Name x px) (z2w n)) (ht:∀s H fp pins E,y6e (z0A X N' sc s H fp pins E) ifs (tT X.K fc)) (he:∀s H fp pins E,PE (z0A X N' sc s H fp pins E) elt (tD X.K fe))
  (hsw:swapsWith (.ListComp elt [⟨.Name x px,iter,ifs,0⟩] sc pos) (some (.Name y py)) spos.line X.env=pure true:=by rfl) (hs:∀x,foldedSetIterable iter X.env x=pure x:=by intro _;rfl):
  PS X (.Assign [.Name y py] (.ListComp elt [⟨.Name x px,iter,ifs,0⟩] sc pos) spos) (tAsg (tF X.K (z1c fi fc fe)) (z2w i)):=by
 intro pins s σ H D I hq
 exact y7g hc S hN hy hyl hi ⟨hg,ht,he⟩ hsw hs pins s σ H D I (y3p (by rw[hn,I.len]) hq)
end
inductive SD where
 |sh (d:D) | ow (d:D) | bo (r:Nat) (d:D)
abbrev SS:=List (Option SD)
def SD.val:SD->D
 |.sh d=>d
 |.ow d=>d
 |.bo _ d=>d
def z0w(δ:SS):DS:=δ.map (Option.map SD.val)
def shO:Option SD->Option D
 |some (.sh d)=>some d
 |_=>none
def shV(δ:SS):DS:=δ.map shO
structure RS(K:aa)(H0:Hp)(B0:Addr->Prop)(H:Hp)(σ:St)(δ:SS)(R:Nat->List Addr):Prop where
 keep:Same H0 H
 inB:InB B0 H0
 len:δ.length=σ.length
 new:∀r a,a∈R r->H0 a=none
 held:∀r a,a∈R r->∃o,H a=some o∧Mut (some o)
 disj:∀r s a,a∈R r->a∈R s->r=s
 sh:∀(i:Nat) (d:D),δ[i]? = some (some (.sh d))->∃v,σ[i]? = some (some v)∧Rep K H (fun a=>B0 a∨∃r,a∈R r) d v
 bo:∀(i r:Nat) (d:D),δ[i]? = some (some (.bo r d))->∃v,σ[i]? = some (some v)∧Rep K H (fun a=>B0 a∨∃s,s≠r∧a∈R s) d v
 ow:∀(i:Nat) (d:D),δ[i]? = some (some (.ow d))->∃v,σ[i]? = some (some v)∧Tree K H d v (R i)∧(R i).Nodup
structure Stp(R:Nat->List Addr)(H:Hp)(R':Nat->List Addr)(H':Hp):Prop where
 keep:∀a o,H a=some o->(∀r,a∉R r)->H' a=some o
 from':∀r a,a∈R' r->(∃s,a∈R s)∨H a=none
 there:∀a,H' a=none->H a=none
theorem Stp.refl(R:Nat->List Addr)(H:Hp):Stp R H R H:=⟨fun _ _ h _=>h,fun r _ h=>.inl ⟨r,h⟩,fun _ h=>h⟩
theorem Stp.trans{R R1 R2:Nat->List Addr}{H H1 H2:Hp}(a:Stp R H R1 H1)(b:Stp R1 H1 R2 H2):Stp R H R2 H2:=by
 refine⟨fun x o h n=>b.keep x o (a.keep x o h n) fun r hr=>?_,fun r x h=>?_,fun x h=>a.there x (b.there x h)⟩
 ·rcases a.from' r x hr with⟨s,z⟩ | z
  ·exact n s z
  ·rw[h]at z;cases z
 ·rcases b.from' r x h with⟨s,z⟩ | z
  ·exact a.from' s x z
  ·exact .inr (a.there x z)
theorem Stp.same{R:Nat->List Addr}{H H':Hp}(e:Same H H'):Stp R H R H':=⟨fun a o h _=>e a o h,fun r _ h=>.inl ⟨r,h⟩,fun _ h=>e.free h⟩
section
variable{K:aa}{H0 H H':Hp}{B0:Addr->Prop}{σ:St}{δ:SS}{R:Nat->List Addr}
theorem x0Q{i:Nat}{d:D}(h:(z0w δ)[i]? = some (some d)):∃x,δ[i]? = some (some x)∧x.val=d:=by
 unfold z0w at h
 rw[aG]at h
 cases e:δ[i]? with
 |none=>rw[e]at h;cases h
 |some o=>
  rw[e]at h
  cases o with
  |none=>cases h
  |some x=>cases h;exact⟨x,rfl,rfl⟩
theorem shV_get{i:Nat}{d:D}(h:(shV δ)[i]? = some (some d)):δ[i]? = some (some (.sh d)):=by
 unfold shV at h
 rw[aG]at h
 cases e:δ[i]? with
 |none=>rw[e]at h;cases h
 |some o=>
  rw[e]at h
  have h':shO o=some d:=Option.some.inj h
  unfold shO at h'
  split at h'
  ·cases h';rfl
  ·cases h'
theorem RS.all(h:RS K H0 B0 H σ δ R):RepS K H noB σ (z0w δ):=by
 refine⟨by unfold z0w;rw[ao];exact h.len,fun i d e=>?_⟩
 obtain⟨x,e',rfl⟩:=x0Q e
 cases x with
 |sh d=>
  obtain⟨v,e1,r⟩:=h.sh i d e'
  exact⟨v,e1,r.anti fun _ z=>z.elim⟩
 |bo r d=>
  obtain⟨v,e1,r⟩:=h.bo i r d e'
  exact⟨v,e1,r.anti fun _ z=>z.elim⟩
 |ow d=>
  obtain⟨v,e1,t,_⟩:=h.ow i d e'
  exact⟨v,e1,t.rep d fun _ _ z=>z.elim⟩
theorem RS.shr(h:RS K H0 B0 H σ δ R):RepS K H (fun a=>B0 a∨∃r,a∈R r) σ (shV δ):=by
 refine⟨by unfold shV;rw[ao];exact h.len,fun i d e=>h.sh i d (shV_get e)⟩
theorem RS.inAll(h:RS K H0 B0 H σ δ R):InB (fun a=>B0 a∨∃r,a∈R r) H:=fun a ha=>by
 rcases ha with z | ⟨r,z⟩
 ·exact(h.inB.mono h.keep) a z
 ·obtain⟨o,e,_⟩:=h.held r a z
  exact⟨o,e⟩
theorem RS.mono(h:RS K H0 B0 H σ δ R)(e:Same H H'):RS K H0 B0 H' σ δ R:=by
 refine⟨h.keep.trans e,h.inB,h.len,h.new,fun r a z=>?_,h.disj,fun i d z=>?_,fun i r d z=>?_,fun i d z=>?_⟩
 ·obtain⟨o,e1,m⟩:=h.held r a z
  exact⟨o,e a o e1,m⟩
 ·obtain⟨v,e1,r⟩:=h.sh i d z
  exact⟨v,e1,r.mono e⟩
 ·obtain⟨v,e1,r⟩:=h.bo i r d z
  exact⟨v,e1,r.mono e⟩
 ·obtain⟨v,e1,t,nd⟩:=h.ow i d z
  exact⟨v,e1,t.mono e,nd⟩
theorem RS.setSh{i:Nat}{d:D}{v:V}(h:RS K H0 B0 H σ δ R)(r:Rep K H (fun a=>B0 a∨∃r,a∈R r) d v):RS K H0 B0 H (σ.set i (some v)) (δ.set i (some (.sh d))) R:=by
 have gs:∀{α:Type} {l:List (Option α)} {i j:Nat} {x:Option α} {y:α},(l.set i x)[j]? = some (some y)->(j=i∧x=some y)∨(j≠i∧l[j]? = some (some y)):=fun {α l i j x y} e=>by
  by_cases hj:j=i
  ·subst hj
   rw[bW]at e
   simp only[if_true]at e
   split at e
   ·exact .inl ⟨rfl,Option.some.inj e⟩
   ·cases e
  ·rw[aW (Ne.symm hj)]at e
   exact .inr ⟨hj,e⟩
 have up:∀{j:Nat} {w:V},j≠i->σ[j]? = some (some w)->(σ.set i (some v))[j]? = some (some w):=fun hj e=>by rw[aW (Ne.symm hj)];exact e
 refine⟨h.keep,h.inB,by simp[h.len],h.new,h.held,h.disj,fun j d' z=>?_,fun j r' d' z=>?_,fun j d' z=>?_⟩
 ·rcases gs z with⟨rfl,q⟩ | ⟨hj,q⟩
  ·cases q
   have hl:j<σ.length:=by
    rw[←h.len]
    by_cases hl:j<δ.length
    ·exact hl
    ·rw[cv (by simp;omega)]at z;cases z
   exact⟨v,by rw[bW];simp[hl],r⟩
  ·obtain⟨w,e1,r⟩:=h.sh j d' q
   exact⟨w,up hj e1,r⟩
 ·rcases gs z with⟨rfl,q⟩ | ⟨hj,q⟩
  ·cases q
  ·obtain⟨w,e1,r⟩:=h.bo j r' d' q
   exact⟨w,up hj e1,r⟩
 ·rcases gs z with⟨rfl,q⟩ | ⟨hj,q⟩
  ·cases q
  ·obtain⟨w,e1,t⟩:=h.ow j d' q
   exact⟨w,up hj e1,t⟩
def y0n(R:Nat->List Addr)(i:Nat)(A:List Addr):Nat->List Addr:=fun r=>if r=i then A else R r
theorem z0U{i:Nat}{A:List Addr}:y0n R i A i=A:=if_pos rfl
theorem z1s{i r:Nat}{A:List Addr}(h:r≠i):y0n R i A r=R r:=if_neg h
theorem z2p{α:Type}{l:List (Option α)}{i j:Nat}{x:Option α}{y:α}(e:(l.set i x)[j]? = some (some y)):(j=i∧x=some y∧i<l.length)∨(j≠i∧l[j]? = some (some y)):=by
 by_cases hj:j=i
 ·subst hj
  rw[bW]at e
  simp only[if_true]at e
  split at e
  ·rename_i hl
   exact .inl ⟨rfl,Option.some.inj e,hl⟩
  ·cases e
 ·rw[aW (Ne.symm hj)]at e
  exact .inr ⟨hj,e⟩
theorem RS.setOw{Hold:Hp}{i:Nat}{d:D}{v:V}{A:List Addr}(h:RS K H0 B0 Hold σ δ R)(e:Same Hold H)(t:Tree K H d v A)(nd:A.Nodup)(fr:∀a∈A,Hold a=none):RS K H0 B0 H (σ.set i (some v)) (δ.set i (some (.ow d))) (y0n R i A):=by
 have hm:=h.mono e
 have up:∀{j:Nat} {w:V},j≠i->σ[j]? = some (some w)->(σ.set i (some v))[j]? = some (some w):=fun hj e=>by rw[aW (Ne.symm hj)];exact e
 have hA:∀r a,a∈R r->a∉A:=fun r a z z'=>by
  obtain⟨o,q,_⟩:=h.held r a z
  rw[fr a z']at q;cases q
 have mem:∀r a,a∈y0n R i A r->(r=i∧a∈A)∨(r≠i∧a∈R r):=fun r a z=>by
  by_cases hr:r=i
  ·subst hr;rw[z0U]at z;exact .inl ⟨rfl,z⟩
  ·rw[z1s hr]at z;exact .inr ⟨hr,z⟩
 refine⟨hm.keep,h.inB,by simp[h.len],fun r a z=>?_,fun r a z=>?_,fun r s a z z'=>?_,fun j d' z=>?_,fun j r' d' z=>?_,fun j d' z=>?_⟩
 ·rcases mem r a z with⟨_,z⟩ | ⟨_,z⟩
  ·exact h.keep.free (fr a z)
  ·exact h.new r a z
 ·rcases mem r a z with⟨_,z⟩ | ⟨_,z⟩
  ·exact t.held d a z
  ·exact hm.held r a z
 ·rcases mem r a z with⟨h1,z⟩ | ⟨h1,z⟩ <;> rcases mem s a z' with⟨h2,z'⟩ | ⟨h2,z'⟩
  ·rw[h1,h2]
  ·exact absurd z (hA s a z')
  ·exact absurd z' (hA r a z)
  ·exact h.disj r s a z z'
 ·rcases z2p z with⟨rfl,q,_⟩ | ⟨hj,q⟩
  ·cases q
  ·obtain⟨w,e1,r⟩:=h.sh j d' q
   refine⟨w,up hj e1,Rep.anti ?_ d' ((Rep.wide (C:=fun a=>a∈A) fr d' r).mono e)⟩
   rintro a (z | ⟨r,z⟩)
   ·exact .inl (.inl z)
   ·rcases mem r a z with⟨_,z⟩ | ⟨_,z⟩
    ·exact .inr z
    ·exact .inl (.inr ⟨r,z⟩)
 ·rcases z2p z with⟨rfl,q,_⟩ | ⟨hj,q⟩
  ·cases q
  ·obtain⟨w,e1,r⟩:=h.bo j r' d' q
   refine⟨w,up hj e1,Rep.anti ?_ d' ((Rep.wide (C:=fun a=>a∈A) fr d' r).mono e)⟩
   rintro a (z | ⟨s,hs,z⟩)
   ·exact .inl (.inl z)
   ·rcases mem s a z with⟨_,z⟩ | ⟨_,z⟩
    ·exact .inr z
    ·exact .inl (.inr ⟨s,hs,z⟩)
 ·rcases z2p z with⟨rfl,q,hl⟩ | ⟨hj,q⟩
  ·cases q
   rw[z0U]
   exact⟨v,by rw[bW];simp[←h.len,hl],t,nd⟩
  ·obtain⟨w,e1,t'⟩:=hm.ow j d' q
   rw[z1s hj]
   exact⟨w,up hj e1,t'⟩
def x0H(i:Nat)(δ:SS):SS:=match δ[i]? with
 |some (some (.ow d))=>δ.set i (some (.sh d))
 |_=>δ
theorem RS.frz(i:Nat)(h:RS K H0 B0 H σ δ R):∃R',RS K H0 B0 H σ (x0H i δ) R'∧∀r a,a∈R' r->a∈R r:=by
 unfold x0H
 split
 ·rename_i d e
  obtain⟨v,e1,t,nd⟩:=h.ow i d e
  refine⟨y0n R i [],?_,fun r a z=>?_⟩
  ·have mem:∀r a,a∈y0n R i [] r->r≠i∧a∈R r:=fun r a z=>by
    by_cases hr:r=i
    ·subst hr;rw[z0U]at z;cases z
    ·rw[z1s hr]at z;exact⟨hr,z⟩
   refine⟨h.keep,h.inB,by simp[h.len],fun r a z=>h.new r a (mem r a z).2,fun r a z=>h.held r a (mem r a z).2,fun r s a z z'=>h.disj r s a (mem r a z).2 (mem s a z').2,fun j d' z=>?_,fun j r' d' z=>?_,fun j d' z=>?_⟩
   ·rcases z2p z with⟨rfl,q,hl⟩ | ⟨hj,q⟩
    ·cases q
     refine⟨v,e1,t.rep d fun a ha=>?_⟩
     rintro (z | ⟨r,z⟩)
     ·obtain⟨o,q⟩:=h.inB a z
      rw[h.new j a ha]at q;cases q
     ·exact(mem r a z).1 (h.disj r j a (mem r a z).2 ha)
    ·obtain⟨w,e2,r⟩:=h.sh j d' q
     exact⟨w,e2,r.anti fun a z=>z.imp id fun⟨r,z⟩=>⟨r,(mem r a z).2⟩⟩
   ·rcases z2p z with⟨rfl,q,_⟩ | ⟨hj,q⟩
    ·cases q
    ·obtain⟨w,e2,r⟩:=h.bo j r' d' q
     exact⟨w,e2,r.anti fun a z=>z.imp id fun⟨s,hs,z⟩=>⟨s,hs,(mem s a z).2⟩⟩
   ·rcases z2p z with⟨rfl,q,_⟩ | ⟨hj,q⟩
    ·cases q
    ·rw[z1s hj]
     exact h.ow j d' q
  ·by_cases hr:r=i
   ·subst hr;rw[z0U]at z;cases z
   ·rw[z1s hr]at z;exact z
 ·exact⟨R,h,fun _ _ z=>z⟩
end
inductive Out where
 |nx (δ:SS) | bk (δ:SS) | ct (δ:SS) | rt (d:D) | rb (d:D) (δ:SS) | ex (c:Nat) (δ:SS)
abbrev XR:=Nat->St->Hp->Prop
abbrev noX:XR:=fun _ _ _=>False
def Ret(K:aa)(H0:Hp)(B0:Addr->Prop)(fr:Bool)(H:Hp)(d:D)(v:V):Prop:=
 Same H0 H∧(fr=true->∃A,Tree K H d v A∧A.Nodup∧∀a∈A,H0 a=none)∧(fr=false->Rep K H B0 d v)
def Aft(K:aa)(H0:Hp)(B0:Addr->Prop)(fr:Bool)(RX:XR)(R:Nat->List Addr)(H:Hp)(D:Ends):Out->Prop
 |.nx δ'=>∀σ' H' R',RS K H0 B0 H' σ' δ' R'->Stp R H R' H'->D.nx σ' H'
 |.bk δ'=>∀σ' H' R',RS K H0 B0 H' σ' δ' R'->Stp R H R' H'->D.bk σ' H'
 |.ct δ'=>∀σ' H' R',RS K H0 B0 H' σ' δ' R'->Stp R H R' H'->D.ct σ' H'
 |.rt d=>∀v H',Ret K H0 B0 fr H' d v->(∀a,H' a=none->H a=none)->D.rt v H'
 |.rb d δ'=>∀v σ' H' R' A2,RS K H0 B0 H' σ' δ' R'->Stp R H R' H'->Tree K H' d v A2->A2.Nodup->(∀a∈A2,H0 a=none∧∀r,a∉R' r)->D.rt v H'
 |.ex c δ'=>∀σ' H' R',RS K H0 B0 H' σ' δ' R'->Stp R H R' H'->RX c σ' H'
def tS(K:aa)(H0:Hp)(B0:Addr->Prop)(fr:Bool)(RX:XR)(g:SS->Option Out):TS:=fun D σ H=>∃δ R o,RS K H0 B0 H σ δ R∧g δ=some o∧Aft K H0 B0 fr RX R H D o
theorem Aft.back{K:aa}{H0:Hp}{B0:Addr->Prop}{fr:Bool}{RX:XR}{R R1:Nat->List Addr}{H H1:Hp}{D:Ends}{o:Out}(h:Aft K H0 B0 fr RX R H D o)(s:Stp R H R1 H1):Aft K H0 B0 fr RX R1 H1 D o:=by
 cases o with
 |nx δ'=>exact fun σ' H' R' r t=>h σ' H' R' r (s.trans t)
 |bk δ'=>exact fun σ' H' R' r t=>h σ' H' R' r (s.trans t)
 |ct δ'=>exact fun σ' H' R' r t=>h σ' H' R' r (s.trans t)
 |rt d=>exact fun v H' r t=>h v H' r fun a z=>s.there a (t a z)
 |rb d δ'=>exact fun v σ' H' R' A2 r t=>h v σ' H' R' A2 r (s.trans t)
 |ex c δ'=>exact fun σ' H' R' r t=>h σ' H' R' r (s.trans t)
theorem PS.imp{X:Cx}{st:Stmt}{t t':TS}(h:PS X st t)(w:∀D σ H,t' D σ H->t D σ H):PS X st t':=fun pins s σ H D I q=>h pins s σ H D I (w D σ H q)
theorem PSs.imp{X:Cx}{st:List Stmt}{t t':TS}(h:PSs X st t)(w:∀D σ H,t' D σ H->t D σ H):PSs X st t':=fun pins s σ H D I q=>h pins s σ H D I (w D σ H q)
section
variable{X:Cx}{H0:Hp}{B0:Addr->Prop}{fr:Bool}{RX:XR}{st:Stmt}{sts:List Stmt}{e:Expr}{pos:Pos}
def z0E(g h:SS->Option Out):SS->Option Out:=fun δ=>(g δ).bind fun o=>match o with
 |.nx δ'=>h δ'
 |o=>some o
def z0P:SS->Option Out:=fun δ=>some (.nx δ)
theorem z0I:PSs X [] (tS X.K H0 B0 fr RX z0P):=pss_nil.imp fun D σ H ⟨δ,R,o,rs,q,k⟩=>by
 cases q
 exact k σ H R rs (.refl R H)
theorem z0f{g h:SS->Option Out}(h1:PS X st (tS X.K H0 B0 fr RX g))(h2:PSs X sts (tS X.K H0 B0 fr RX h)):PSs X (st::sts) (tS X.K H0 B0 fr RX (z0E g h)):=(z9G h1 h2).imp fun D σ H ⟨δ,R,o,rs,q,k⟩=>by
 unfold z0E at q
 cases e:g δ with
 |none=>rw[e]at q;cases q
 |some o1=>
  rw[e]at q
  refine⟨δ,R,o1,rs,e,?_⟩
  cases o1 with
  |nx δ'=>
   have q':h δ'=some o:=q
   exact fun σ' H' R' rs' s'=>⟨δ',R',o,rs',q',k.back s'⟩
  |bk δ'=>cases q;exact k
  |ct δ'=>cases q;exact k
  |rt d=>cases q;exact k
  |rb d δ'=>cases q;exact k
  |ex c δ'=>cases q;exact k
theorem z0h{g:SS->Option Out}(h1:PS X st (tS X.K H0 B0 fr RX g)):PSs X [st] (tS X.K H0 B0 fr RX g):=x0a h1
abbrev PAsg(X:Cx)(st:Stmt)(i:Nat)(te:TE):Prop:=PS X st (tAsg te (z2w i))
theorem PAsg.imp{i:Nat}{t t':TE}(h:PAsg X st i t)(w:∀σ H Q,t' σ H Q->t σ H Q):PAsg X st i t':=PS.imp h fun D σ H q=>w σ H _ q
theorem z0L{i:Nat}{x:Str}{te:TE}{pos':Pos}(hN:X.N.Nodup)(hi:X.N[i]? = some x)(hx:Loc X.env.scope x)(he:PE X e te)(hs:swapsWith e (some (.Name x pos')) pos.line X.env=pure false:=by rfl)(hf:X.fn x=true∨X.env.scope.names.lookup x=some .local:=by first | exact .inl rfl | exact .inr rfl | assumption):
  PAsg X (.Assign [.Name x pos'] e pos) i te:=ps_set hN hi hx he hs hf
def z5j(i:Nat)(f:DE):SS->Option Out:=fun δ=>(f (shV δ)).map fun d=>.nx (δ.set i (some (.sh d)))
def y0o(i:Nat)(f:DE):SS->Option Out:=fun δ=>(f (z0w δ)).bind fun d=>if d.imm=true then some (.nx (δ.set i (some (.sh d))))else none
def z6S(i:Nat)(f:DE):SS->Option Out:=fun δ=>(f (z0w δ)).map fun d=>.nx (δ.set i (some (.ow d)))
theorem z1g{i:Nat}{f:DE}(h:PAsg X st i (tD X.K f)):PS X st (tS X.K H0 B0 fr RX (z5j i f)):=PS.imp h fun D σ H ⟨δ,R,o,rs,q,k⟩=>by
 unfold z5j at q
 cases e:f (shV δ)with
 |none=>rw[e]at q;cases q
 |some d=>
  rw[e]at q
  cases q
  exact⟨_,shV δ,d,rs.inAll,rs.shr,e,fun v H' s r=>k _ H' R ((rs.mono s).setSh r) (.same s)⟩
theorem z2U{i:Nat}{f:DE}(h:PAsg X st i (tD X.K f)):PS X st (tS X.K H0 B0 fr RX (y0o i f)):=PS.imp h fun D σ H ⟨δ,R,o,rs,q,k⟩=>by
 unfold y0o at q
 cases e:f (z0w δ)with
 |none=>rw[e]at q;cases q
 |some d=>
  rw[e]at q
  have q':(if d.imm=true then some (Out.nx (δ.set i (some (.sh d))))else none)=some o:=q
  split at q'
  ·rename_i hi
   cases q'
   exact⟨noB,z0w δ,d,.no,rs.all,e,fun v H' s r=>k _ H' R ((rs.mono s).setSh (r.imm d hi)) (.same s)⟩
  ·cases q'
theorem z1I{i:Nat}{f:DE}(h:PAsg X st i (tN X.K f)):PS X st (tS X.K H0 B0 fr RX (z6S i f)):=PS.imp h fun D σ H ⟨δ,R,o,rs,q,k⟩=>by
 unfold z6S at q
 cases e:f (z0w δ)with
 |none=>rw[e]at q;cases q
 |some d=>
  rw[e]at q
  cases q
  refine⟨z0w δ,d,rs.all,e,fun v H' A s t nd fr'=>k _ H' (y0n R i A) (rs.setOw s t nd fr') ⟨fun a o h _=>s a o h,fun r a z=>?_,fun a z=>s.free z⟩⟩
  by_cases hr:r=i
  ·subst hr;rw[z0U]at z;exact .inr (fr' a z)
  ·rw[z1s hr]at z;exact .inl ⟨r,z⟩
def z2N(f:DE):SS->Option Out:=fun δ=>(f (z0w δ)).bind fun d=>if d.imm=true then some (.rt d)else none
def z8j(f:DE):SS->Option Out:=fun δ=>(f (z0w δ)).map .rt
def z8n(f:DE):SS->Option Out:=fun δ=>(f (shV δ)).map .rt
def y6h(i:Nat):SS->Option Out:=fun δ=>match δ[i]? with
 |some (some (.ow d))=>some (.rt d)
 |_=>none
theorem z0O{f:DE}(h:PD X e f):PS X (.Return (some e) pos) (tS X.K H0 B0 fr RX (z2N f)):=PS.imp (y0M h) fun D σ H ⟨δ,R,o,rs,q,k⟩=>by
 unfold z2N at q
 cases e:f (z0w δ)with
 |none=>rw[e]at q;cases q
 |some d=>
  rw[e]at q
  have q':(if d.imm=true then some (Out.rt d)else none)=some o:=q
  split at q'
  ·rename_i hi
   cases q'
   exact⟨noB,z0w δ,d,.no,rs.all,e,fun v H' s r=>k v H' ⟨rs.keep.trans s,fun _=>⟨[],r.immTree d hi,aY,(fun a z=>nomatch z)⟩,fun _=>r.imm d hi⟩ fun a z=>s.free z⟩
  ·cases q'
theorem z2m{f:DE}(h:PN X e f):PS X (.Return (some e) pos) (tS X.K H0 B0 fr RX (z8j f)):=PS.imp (y0M h) fun D σ H ⟨δ,R,o,rs,q,k⟩=>by
 unfold z8j at q
 cases e:f (z0w δ)with
 |none=>rw[e]at q;cases q
 |some d=>
  rw[e]at q
  cases q
  exact⟨z0w δ,d,rs.all,e,fun v H' A s t nd fr'=>k v H' ⟨rs.keep.trans s,fun _=>⟨A,t,nd,fun a z=>rs.keep.free (fr' a z)⟩,fun _=>t.rep d fun a z=>rs.inB.fresh (rs.keep.free (fr' a z))⟩ fun a z=>s.free z⟩
theorem z2o{f:DE}(h:PD X e f):PS X (.Return (some e) pos) (tS X.K H0 B0 false RX (z8n f)):=PS.imp (y0M h) fun D σ H ⟨δ,R,o,rs,q,k⟩=>by
 unfold z8n at q
 cases e:f (shV δ)with
 |none=>rw[e]at q;cases q
 |some d=>
  rw[e]at q
  cases q
  exact⟨_,shV δ,d,rs.inAll,rs.shr,e,fun v H' s r=>k v H' ⟨rs.keep.trans s,(fun z=>nomatch z),fun _=>r.anti fun a z=>.inl z⟩ fun a z=>s.free z⟩
theorem z6F{i:Nat}(h:PE X e (y1a i)):PS X (.Return (some e) pos) (tS X.K H0 B0 fr RX (y6h i)):=PS.imp (y0M h) fun D σ H ⟨δ,R,o,rs,q,k⟩=>by
 unfold y6h at q
 split at q
 ·rename_i d e
  cases q
  obtain⟨v,e1,t,nd⟩:=rs.ow i d e
  exact⟨v,e1,k v H ⟨rs.keep,fun _=>⟨R i,t,nd,fun a z=>rs.new i a z⟩,fun _=>t.rep d fun a z=>rs.inB.fresh (rs.new i a z)⟩ fun a z=>z⟩
 ·cases q
def ifO(c:DS->Option Bool)(g h:SS->Option Out):SS->Option Out:=fun δ=>(c (z0w δ)).bind fun b=>if b=true then g δ else h δ
theorem z3x{c:Expr}{a b:List Stmt}{f:DS->Option Bool}{g h:SS->Option Out}(hc:PTD X c f)(ha:PSs X a (tS X.K H0 B0 fr RX g))(hb:PSs X b (tS X.K H0 B0 fr RX h)):PS X (.If c a b pos) (tS X.K H0 B0 fr RX (ifO f g h)):=PS.imp (ps_if hc ha hb) fun D σ H ⟨δ,R,o,rs,q,k⟩=>by
 unfold ifO at q
 cases e:f (z0w δ)with
 |none=>rw[e]at q;cases q
 |some b=>
  rw[e]at q
  have q':(if b=true then g δ else h δ)=some o:=q
  refine⟨noB,z0w δ,b,.no,rs.all,e,fun H' s=>?_⟩
  cases b with
  |true=>
   rw[if_pos rfl]at q'
   refine iteT ?_
   exact⟨δ,R,o,rs.mono s,q',k.back (.same s)⟩
  |false=>
   rw[if_neg av]at q'
   refine iteF ?_
   exact⟨δ,R,o,rs.mono s,q',k.back (.same s)⟩
def frzO(i:Nat)(g:SS->Option Out):SS->Option Out:=fun δ=>g (x0H i δ)
theorem s_frz(i:Nat){g:SS->Option Out}(h:PS X st (tS X.K H0 B0 fr RX g)):PS X st (tS X.K H0 B0 fr RX (frzO i g)):=PS.imp h fun D σ H ⟨δ,R,o,rs,q,k⟩=>by
 obtain⟨R',rs',hs⟩:=rs.frz i
 exact⟨x0H i δ,R',o,rs',q,k.back ⟨fun a o h _=>h,fun r a z=>.inl ⟨r,hs r a z⟩,fun a z=>z⟩⟩
def z8i(i:Nat)(b:SS->Option Out):List D->SS->Option Out
 |[],δ=>some (.nx δ)
 |x::r,δ=>(b (δ.set i (some (.sh x)))).bind fun o=>match o with
  |.nx δ'=>z8i i b r δ'
  |.ct δ'=>z8i i b r δ'
  |.bk δ'=>some (.nx δ')
  |.rt d=>some (.rt d)
  |.rb d δ'=>some (.rb d δ')
  |.ex c δ'=>some (.ex c δ')
def z4N(i:Nat)(f:DS->Option (List D))(b:SS->Option Out):SS->Option Out:=fun δ=>(f (shV δ)).bind fun ds=>z8i i b ds δ
theorem Stp.keepB{K:aa}{R R':Nat->List Addr}{H H':Hp}{B:Addr->Prop}(s:Stp R H R' H')(hR:∀r a,a∈R r->B a)(hm:∀r a,a∈R r->∃o,H a=some o∧Mut (some o)):Keep K B H H':=by
 have kp:∀a o,H a=some o->¬ Mut (some o)->H' a=some o:=fun a o e n=>s.keep a o e fun r z=>by
  obtain⟨o',e',m⟩:=hm r a z
  rw[e]at e';cases e'
  exact n m
 refine⟨fun a xs n h=>s.keep a _ h fun r z=>n (hR r a z),fun a xs h=>?_,fun a xs h=>?_,fun a kvs n h=>s.keep a _ h fun r z=>n (hR r a z),fun a φ n h=>s.keep a _ h fun r z=>n (hR r a z),fun a _ _ _ n h=>s.keep a _ h fun r z=>n (hR r a z)⟩
 ·rcases h with (h | ⟨o,h⟩) | h
  ·exact .inl (.inl (kp a _ h fun z=>z))
  ·exact .inl (.inr ⟨o,kp a _ h fun z=>z⟩)
  ·exact .inr h
 ·rcases h with⟨o,h⟩ | h
  ·exact .inl ⟨o,kp a _ h fun z=>z⟩
  ·exact .inr h
theorem z1H{i:Nat}{x:Str}{px:Pos}{iter:Expr}{body:List Stmt}{f:DS->Option (List D)}{g:SS->Option Out}(hp:PassesOwn (model X.prog X.w) X.A X.env X.xe)(hc:X.calm=true)(hi:PID X (.Name x px) iter f)(hg:PG X (.Name x px) (z2w i))(hb:PSs X body (tS X.K H0 B0 fr RX g))
  (hs:∀x,foldedSetIterable iter X.env x=pure x:=by intro _;rfl):PS X (.For (.Name x px) iter body [] pos) (tS X.K H0 B0 fr RX (z4N i f g)):=PS.imp (y9D hp hc hi hg hb hs) fun D σ H ⟨δ,R,o,rs,q,k⟩=>by
 unfold z4N at q
 cases e:f (shV δ)with
 |none=>rw[e]at q;cases q
 |some ds=>
 rw[e]at q
 have q:z8i i g ds δ=some o:=q
 refine⟨_,shV δ,ds,rs.inAll,rs.shr,e,fun J H1 s1 itw=>?_⟩
 have rs1:=rs.mono s1
 have it:=itw (fun a=>H1 a=none) fun a z=>z
 refine⟨fun n m σ' H'=>m=ds.length - n∧n≤ds.length∧∃δ' R',RS X.K H0 B0 H' σ' δ' R'∧Stp R H1 R' H'∧z8i i g (ds.drop n) δ'=some o,⟨ds.length,by simp,bn _,δ,R,rs1,.refl R H1,q⟩,?_⟩
 rintro n m σ' H' ⟨rfl,hn,δ',R',rs',s',q'⟩
 have kp:Keep X.K (fun a=>(B0 a∨∃r,a∈R r)∨H1 a=none) H1 H':=s'.keepB (fun r a z=>.inl (.inr ⟨r,z⟩)) rs1.held
 by_cases hlt:n<ds.length
 ·have hx:ds.drop n=ds[n]::ds.drop (n+1):=bb hlt
  rw[hx]at q'
  unfold z8i at q'
  cases eb:g (δ'.set i (some (.sh ds[n])))with
  |none=>rw[eb]at q';cases q'
  |some ob=>
   rw[eb]at q'
   refine .inr ⟨it.go n H' kp hlt,fun σ2 H2=>n+1≤ds.length∧∃δ2 R2,RS X.K H0 B0 H2 σ2 δ2 R2∧Stp R H1 R2 H2∧z8i i g (ds.drop (n+1)) δ2=some o,fun σ2 H2 z=>⟨ds.length - (n+1),by omega,rfl,z⟩,fun xv H2 hy=>?_⟩
   obtain⟨s2,d,hd,rd⟩:=it.yld n H' xv H2 kp hy
   have hdi:d=ds[n]:=by
    have:=hd hlt
    rw[am hlt]at this
    exact(Option.some.inj this).symm
   subst hdi
   have rd':Rep X.K H2 (fun a=>B0 a∨∃r,a∈R' r) ds[n] xv:=rd.anti fun a z=>by
    rcases z with z | ⟨r,z⟩
    ·exact .inl (.inl z)
    ·rcases s'.from' r a z with z | z
     ·exact .inl (.inr z)
     ·exact .inr z
   have rs2:=(rs'.mono s2).setSh (i:=i) rd'
   have st2:Stp R H1 R' H2:=s'.trans (.same s2)
   refine⟨_,R',ob,rs2,eb,?_⟩
   cases ob with
   |nx δ2=>
    have q2:z8i i g (ds.drop (n+1)) δ2=some o:=q'
    exact fun σ3 H3 R3 rs3 s3=>⟨hlt,δ2,R3,rs3,st2.trans s3,q2⟩
   |ct δ2=>
    have q2:z8i i g (ds.drop (n+1)) δ2=some o:=q'
    exact fun σ3 H3 R3 rs3 s3=>⟨hlt,δ2,R3,rs3,st2.trans s3,q2⟩
   |bk δ2=>
    cases q'
    exact fun σ3 H3 R3 rs3 s3=>k σ3 H3 R3 rs3 ((Stp.same s1).trans (st2.trans s3))
   |rt d=>
    cases q'
    exact k.back ((Stp.same s1).trans st2)
   |rb d δ2=>
    cases q'
    exact k.back ((Stp.same s1).trans st2)
   |ex c δ2=>
    cases q'
    exact k.back ((Stp.same s1).trans st2)
 ·have en:n=ds.length:=by omega
  subst en
  rw[cC]at q'
  cases q'
  exact .inl ⟨it.stop _ H' kp (ar _),k σ' H' R' rs' ((Stp.same s1).trans s')⟩
end
def z2g(np nl:Nat)(g:SS->Option Out):List D->Option D:=fun ds=>if ds.length=np then(match g (ds.map (fun d=>some (.sh d))++ad nl none)with
 |some (.rt d)=>some d
 |some (.nx _)=>some .non
 |_=>none)else none
theorem z4B{np nl:Nat}{g:SS->Option Out}{ds:List D}{d:D}(h:z2g np nl g ds=some d):ds.length=np:=by
 unfold z2g at h
 split at h
 ·assumption
 ·cases h
theorem z5E{K:aa}{H:Hp}{B:Addr->Prop}{ds:List D}{vs:List V}{N:List Str}{nl:Nat}(hB:InB B H)(r:Reps K H B ds vs)(hN:N.length=ds.length+nl):
  RS K H B H (z4O N vs) (ds.map (fun d=>some (.sh d))++ad nl none) (fun _=>[]):=by
 have hl:=r.length
 have get:∀{i:Nat} {x:SD},(ds.map (fun d=>some (SD.sh d))++ad nl none)[i]? = some (some x)->∃d,ds[i]? = some d∧x = .sh d:=fun {i x} e=>by
  by_cases hi:i<ds.length
  ·rw[aZ (by simpa using hi),aG,am hi]at e
   cases e
   exact⟨ds[i],am hi,rfl⟩
  ·rw[bh (by simpa using hi),bq]at e
   split at e <;> cases e
 refine⟨.refl H,hB,?_,(fun _ _ z=>nomatch z),(fun _ _ z=>nomatch z),(fun _ _ _ z=>nomatch z),fun i d e=>?_,fun i r d e=>?_,fun i d e=>?_⟩
 ·unfold z4O
  simp
  omega
 ·obtain⟨d',e1,e2⟩:=get e
  cases e2
  obtain⟨v,e3,rv⟩:=r.get e1
  refine⟨v,?_,rv.anti fun a z=>z.elim id (fun⟨_,z⟩=>nomatch z)⟩
  unfold z4O
  have hi:i<vs.length:=(aL.mp e3).1
  rw[aZ (by simpa using hi),aG,e3]
  rfl
 ·obtain⟨d',_,e2⟩:=get e
  cases e2
 ·obtain⟨d',_,e2⟩:=get e
  cases e2
section
variable{P:fw}{w:fx}{K:aa}{mg:Str->Option Value}{base:Heap}
theorem fnN{x qual:Str}{st:Stmt}{f:Addr}{fd:fy}{N ps:List Str}{k np nl:Nat}{g:SS->Option Out}(F:Fun K x qual st f fd)(S:FnScope N ps (z0g st))(hnp:ps.length=np)(hN:N.length=np+nl)
  (hbody:∀(cdv:Value) (A:Around) (outer:List Env) (s:dw) (H:Hp) (E:XK),Room k (A.deeper (envOfC qual (z0g st) s.heap.objs.size f cdv)) →
   PSs (z8p CX0 P w K mg base N qual (z0g st) f cdv A outer s H E).nox (z0X st) (tS K H noB true noX g)):FnOk P w K mg base CX0 (k+1) f fd ps (spN K (z2g np nl g)):=by
 refine F.ok S (fun vs H Q E h=>?_) fun cdv A outer s H vs Q E hr h=>?_
 ·obtain⟨ds,d,r,e,_⟩:=h
  rw[←r.length,z4B e,hnp]
 ·obtain⟨ds,d,r,e,kk⟩:=h
  refine⟨_,hbody cdv A outer s H E hr,?_⟩
  have hl:=z4B e
  unfold z2g at e
  rw[if_pos hl]at e
  have rs:=z5E (nl:=nl) .no r (N:=N) ⋯
  split at e
  ·rename_i d' eg
   cases e
   exact⟨_,_,_,rs,eg,fun v H' z _=>by
    obtain⟨A',t,nd,fr⟩:=z.2.1 rfl
    exact kk v H' A' z.1 t nd fr⟩
  ·rename_i δ' eg
   cases e
   exact⟨_,_,_,rs,eg,fun σ' H' R' rs' _=>kk .non H' [] rs'.keep ⟨rfl,rfl⟩ aY (fun a z=>nomatch z)⟩
  ·cases e
theorem z4P{x qual:Str}{st:Stmt}{f:Addr}{fd:fy}{N ps:List Str}{k np nl:Nat}{g:SS->Option Out}(F:Fun K x qual st f fd)(hm:mg x=some (.ref f))(hb:Binds K fd ps [])(S:FnScope N ps (z0g st))(hnp:ps.length=np)(hN:N.length=np+nl)
  (hbody:∀(cdv:Value) (A:Around) (outer:List Env) (s:dw) (H:Hp) (E:XK),Room k (A.deeper (envOfC qual (z0g st) s.heap.objs.size f cdv)) →
   PSs (z8p CX0 P w K mg base N qual (z0g st) f cdv A outer s H E).nox (z0X st) (tS K H noB true noX g)):DefOk P w K mg base (k+1) x (spN K (z2g np nl g)):=
 ⟨f,fd,ps,hm,F.kp,hb,fnN F S hnp hN hbody⟩
theorem defR{x qual:Str}{st:Stmt}{f:Addr}{fd:fy}{N ps:List Str}{k np nl:Nat}{g:SS->Option Out}(F:Fun K x qual st f fd)(hm:mg x=some (.ref f))(hb:Binds K fd ps [])(S:FnScope N ps (z0g st))(hnp:ps.length=np)(hN:N.length=np+nl)
  (hbody:∀(cdv:Value) (A:Around) (outer:List Env) (s:dw) (H:Hp) (E:XK) (B:Addr->Prop),Room k (A.deeper (envOfC qual (z0g st) s.heap.objs.size f cdv)) →
   PSs (z8p CX0 P w K mg base N qual (z0g st) f cdv A outer s H E).nox (z0X st) (tS K H B false noX g)):DefOk P w K mg base (k+1) x (spR K (z2g np nl g)):=by
 refine⟨f,fd,ps,hm,F.kp,hb,F.ok S (fun vs H Q E h=>?_) fun cdv A outer s H vs Q E hr h=>?_⟩
 ·obtain⟨B,ds,d,_,r,e,_⟩:=h
  rw[←r.length,z4B e,hnp]
 ·obtain⟨B,ds,d,hB,r,e,kk⟩:=h
  refine⟨_,hbody cdv A outer s H E B hr,?_⟩
  have hl:=z4B e
  unfold z2g at e
  rw[if_pos hl]at e
  have rs:=z5E (nl:=nl) hB r (N:=N) ⋯
  split at e
  ·rename_i d' eg
   cases e
   exact⟨_,_,_,rs,eg,fun v H' z _=>kk v H' z.1 (z.2.2 rfl)⟩
  ·rename_i δ' eg
   cases e
   exact⟨_,_,_,rs,eg,fun σ' H' R' rs' _=>kk .non H' rs'.keep rfl⟩
  ·cases e
end
end L2
namespace L2
open PySem PySem.Spec PyProof.Rows PySem.SeqAt
mutual
def toP:D->PyData
 |.non=>.none
 |.bl b=>.bool b
 |.int i=>.int i
 |.str x=>.str x
 |.lst ds=>.list (z8M ds)
 |.tup ds=>.tuple (z8M ds)
 |.scr ns=>.list (ns.map .int)
 |.dct _ _=>.dict []
 |.exc _=>.dict []
 |.obj _ _ _ _=>.dict []
 |.cel _ _=>.dict []
def z8M:List D->List PyData
 |[]=>[]
 |d::ds=>toP d::z8M ds
end
theorem z8F{h:Heap}:∀(ns:List Int) {us:List Value},Vals (ns.map V.int) us->∃as,ReadsAll h us (ns.map .int) as
 |[],_,.nil=>⟨_,.nil⟩
 |n::ns,_,.cons r t=>by
  obtain⟨tk,rfl⟩:=r
  obtain⟨as,ra⟩:=z8F (h:=h) ns t
  exact⟨_,.cons (.int n tk) ra⟩
section
variable{X:Cx}{pins:AO}{σ:St}{H:Hp}{s:dw}{B:Addr->Prop}
mutual
theorem z0W(I:Inv X pins σ H s):∀(d:D) {v:V} {u:Value},(toP d).canLay0=true->Rep X.K H B d v->RelV v u->∃as,Reads s.heap u (toP d) as
 |.non,_,_,_,h,r=>by cases h;cases r;exact⟨_,.none⟩
 |.bl b,_,_,_,h,r=>by cases h;cases r;exact⟨_,.bool b⟩
 |.int i,_,_,_,h,r=>by cases h;obtain⟨t,rfl⟩:=r;exact⟨_,.int i t⟩
 |.str x,_,_,_,h,r=>by cases h;obtain⟨t,rfl⟩:=r;exact⟨_,.str x t⟩
 |.lst ds,_,_,hc,h,r=>by
  unfold Rep at h
  obtain⟨a,xs,rfl,_,hq,rs⟩:=h
  cases r
  obtain⟨its,rv,⟨o,n,e,c,_,dt⟩,_⟩:=I.list (SqL.of hq)
  have hc':PyData.canLayAll0 (z8M ds)=true:=by unfold toP PyData.canLay0 at hc;exact hc
  obtain⟨as,ra⟩:=z6j I ds hc' rs rv
  unfold toP
  exact⟨_,.list e c dt (by simpa using ra)⟩
 |.tup ds,_,_,hc,h,r=>by
  unfold Rep at h
  obtain⟨a,xs,rfl,hq,rs⟩:=h
  cases r
  obtain⟨its,rv,⟨o,e,c,n,dt⟩,_⟩:=I.tuple hq
  have hc':PyData.canLayAll0 (z8M ds)=true:=by unfold toP PyData.canLay0 at hc;exact hc
  obtain⟨as,ra⟩:=z6j I ds hc' rs rv
  unfold toP
  exact⟨_,.tuple e c dt (by simpa using ra)⟩
 |.scr ns,_,_,hc,h,r=>by
  unfold Rep at h
  obtain⟨a,rfl,hq⟩:=h
  cases r
  obtain⟨its,rv,⟨o,n,e,c,_,dt⟩,_⟩:=I.list hq.sq
  unfold toP
  obtain⟨as,ra⟩:=z8F (h:=s.heap) ns rv
  exact⟨_,.list e c dt (by simpa using ra)⟩
 |.dct _ _,_,_,hc,_,_=>by unfold toP PyData.canLay0 at hc;cases hc
 |.exc _,_,_,hc,_,_=>by unfold toP PyData.canLay0 at hc;cases hc
 |.obj _ _ _ _,_,_,hc,_,_=>by unfold toP PyData.canLay0 at hc;cases hc
 |.cel _ _,_,_,hc,_,_=>by unfold toP PyData.canLay0 at hc;cases hc
theorem z6j(I:Inv X pins σ H s):∀(ds:List D) {xs:List V} {us:List Value},PyData.canLayAll0 (z8M ds)=true->Reps X.K H B ds xs->Vals xs us->∃as,ReadsAll s.heap us (z8M ds) as
 |[],_,_,_,h,r=>by
  unfold Reps at h
  subst h
  cases r
  exact⟨_,.nil⟩
 |d::ds,_,_,hc,h,r=>by
  unfold Reps at h
  obtain⟨x,rr,rfl,h1,h2⟩:=h
  unfold z8M PyData.canLayAll0 at hc
  rw[aJ]at hc
  cases r with
  |cons r1 r2=>
   obtain⟨as,ra⟩:=z0W I d hc.1 h1 r1
   obtain⟨bs,rb⟩:=z6j I ds hc.2 h2 r2
   unfold z8M
   exact⟨_,.cons ra rb⟩
end
end
def okP(d:D):Bool:=(toP d).canLay0&&decide ((toP d).depth≤60)
def eqD(x y:D):Option D:=if(okP x&&okP y)=true then some (.bl (PyData.eqv (toP x) (toP y)))else none
def neD(x y:D):Option D:=if(okP x&&okP y)=true then some (.bl (!PyData.eqv (toP x) (toP y)))else none
def x0w(x:D):D->Option Bool
 |.lst ds=>if(okP x&&okP (.lst ds))=true then some (ds.any fun y=>PyData.eqv (toP y) (toP x))else none
 |.tup ds=>if(okP x&&okP (.tup ds))=true then some (ds.any fun y=>PyData.eqv (toP y) (toP x))else none
 |_=>none
def inD(x y:D):Option D:=(x0w x y).map .bl
def y6g(x y:D):Option D:=(x0w x y).map fun b=>.bl (!b)
def rEqD(K:aa):R2:=fun x y H Q=>∃B dx dy,Rep K H B dx x∧Rep K H B dy y∧okP dx=true∧okP dy=true∧Q (.bl (PyData.eqv (toP dx) (toP dy))) H
def rNeD(K:aa):R2:=fun x y H Q=>∃B dx dy,Rep K H B dx x∧Rep K H B dy y∧okP dx=true∧okP dy=true∧Q (.bl (!PyData.eqv (toP dx) (toP dy))) H
theorem z0C{d:D}(h:okP d=true):(toP d).canLay0=true∧(toP d).depth≤60:=by
 unfold okP at h
 rw[aJ,decide_eq_true_eq]at h
 exact h
section
variable{X:Cx}
theorem x3o(hu:X.A.units+64<fK):OpR X (compareOp .Eq) (rEqD X.K):=by
 intro pins s σ H x y v u Q I rx ry h
 obtain⟨B,dx,dy,r1,r2,o1,o2,q⟩:=h
 obtain⟨as,ra⟩:=z0W I dx (z0C o1).1 r1 rx
 obtain⟨bs,rb⟩:=z0W I dy (z0C o2).1 r2 ry
 exact compareEq_reads ra rb (z0C o1).1 (z0C o2).1 (by have:=(z0C o1).2;omega) ⟨.bl _,H,I,rfl,q⟩
theorem op_neD(hu:X.A.units+64<fK):OpR X (compareOp .NotEq) (rNeD X.K):=by
 intro pins s σ H x y v u Q I rx ry h
 obtain⟨B,dx,dy,r1,r2,o1,o2,q⟩:=h
 obtain⟨as,ra⟩:=z0W I dx (z0C o1).1 r1 rx
 obtain⟨bs,rb⟩:=z0W I dy (z0C o2).1 r2 ry
 exact compareNe_reads ra rb (z0C o1).1 (z0C o2).1 (by have:=(z0C o1).2;omega) ⟨.bl _,H,I,rfl,q⟩
theorem o2_eq{K:aa}:Op2 K (rEqD K) eqD:=by
 intro H B dx dy d x y Q hB hx hy q k
 unfold eqD at q
 split at q
 ·rename_i h
  rw[aJ]at h
  cases q
  exact⟨B,dx,dy,hx,hy,h.1,h.2,k _ H (.refl H) rfl⟩
 ·cases q
theorem o2_ne{K:aa}:Op2 K (rNeD K) neD:=by
 intro H B dx dy d x y Q hB hx hy q k
 unfold neD at q
 split at q
 ·rename_i h
  rw[aJ]at h
  cases q
  exact⟨B,dx,dy,hx,hy,h.1,h.2,k _ H (.refl H) rfl⟩
 ·cases q
theorem z5D(p:PyData->Bool):∀ds:List D,(z8M ds).any p=ds.any fun y=>p (toP y)
 |[]=>rfl
 |d::ds=>by unfold z8M;rw[cR,cR,z5D p ds]
def rInD(K:aa)(neg:Bool):R2:=fun x y H Q=>∃B dx dy b,Rep K H B dx x∧Rep K H B dy y∧x0w dx dy=some b∧Q (.bl (if neg then !b else b)) H
theorem op_inD(hu:X.A.units+64<fK):OpR X (compareOp .In) (rInD X.K false):=by
 intro pins s σ H x y v u Q I rx ry h
 obtain⟨B,dx,dy,b,r1,r2,o,q⟩:=h
 unfold x0w at o
 split at o
 ·split at o
  ·rename_i ds h
   rw[aJ]at h
   cases o
   obtain⟨as,ra⟩:=z0W I dx (z0C h.1).1 r1 rx
   obtain⟨bs,rb⟩:=z0W I _ (z0C h.2).1 r2 ry
   have hc:=(z0C h.2).1
   unfold toP at rb hc
   unfold PyData.canLay0 at hc
   refine in_list_reads rb ra hc (z0C h.1).1 (by have:=(z0C h.1).2;omega) ?_
   rw[z5D]
   exact⟨.bl _,H,I,rfl,q⟩
  ·cases o
 ·split at o
  ·rename_i ds h
   rw[aJ]at h
   cases o
   obtain⟨as,ra⟩:=z0W I dx (z0C h.1).1 r1 rx
   obtain⟨bs,rb⟩:=z0W I _ (z0C h.2).1 r2 ry
   have hc:=(z0C h.2).1
   unfold toP at rb hc
   unfold PyData.canLay0 at hc
   refine in_tuple_reads rb ra hc (z0C h.1).1 (by have:=(z0C h.1).2;omega) ?_
   rw[z5D]
   exact⟨.bl _,H,I,rfl,q⟩
  ·cases o
 ·cases o
theorem op_ninD(hu:X.A.units+64<fK):OpR X (compareOp .NotIn) (rInD X.K true):=by
 intro pins s σ H x y v u Q I rx ry h
 obtain⟨B,dx,dy,b,r1,r2,o,q⟩:=h
 unfold x0w at o
 split at o
 ·split at o
  ·rename_i ds h
   rw[aJ]at h
   cases o
   obtain⟨as,ra⟩:=z0W I dx (z0C h.1).1 r1 rx
   obtain⟨bs,rb⟩:=z0W I _ (z0C h.2).1 r2 ry
   have hc:=(z0C h.2).1
   unfold toP at rb hc
   unfold PyData.canLay0 at hc
   refine notIn_list_reads rb ra hc (z0C h.1).1 (by have:=(z0C h.1).2;omega) ?_
   rw[z5D]
   exact⟨.bl _,H,I,rfl,q⟩
  ·cases o
 ·split at o
  ·rename_i ds h
   rw[aJ]at h
   cases o
   obtain⟨as,ra⟩:=z0W I dx (z0C h.1).1 r1 rx
   obtain⟨bs,rb⟩:=z0W I _ (z0C h.2).1 r2 ry
   have hc:=(z0C h.2).1
   unfold toP at rb hc
   unfold PyData.canLay0 at hc
   refine notIn_tuple_reads rb ra hc (z0C h.1).1 (by have:=(z0C h.1).2;omega) ?_
   rw[z5D]
   exact⟨.bl _,H,I,rfl,q⟩
  ·cases o
 ·cases o
theorem o2_in{K:aa}:Op2 K (rInD K false) inD:=by
 intro H B dx dy d x y Q hB hx hy q k
 unfold inD at q
 cases e:x0w dx dy with
 |none=>rw[e]at q;cases q
 |some b=>
  rw[e]at q
  cases q
  exact⟨B,dx,dy,b,hx,hy,e,k _ H (.refl H) rfl⟩
theorem o2_nin{K:aa}:Op2 K (rInD K true) y6g:=by
 intro H B dx dy d x y Q hB hx hy q k
 unfold y6g at q
 cases e:x0w dx dy with
 |none=>rw[e]at q;cases q
 |some b=>
  rw[e]at q
  cases q
  exact⟨B,dx,dy,b,hx,hy,e,k _ H (.refl H) rfl⟩
def OpA(K:aa)(r:List V->Hp->VK->Prop)(F:List D->Option D):Prop:=∀(H:Hp) (B:Addr->Prop) (ds:List D) (d:D) (vs:List V) (Q:VK),InB B H->Reps K H B ds vs->F ds=some d->(∀v H',Same H H'->Rep K H' B d v->Q v H')->r vs H Q
def OpL(K:aa)(r:List V->Hp->VK->Prop)(F:List D->Option (List D)):Prop:=∀(H:Hp) (B:Addr->Prop) (ds es:List D) (vs:List V) (Q:VK),InB B H->Reps K H B ds vs->F ds=some es →
 (∀a xs H',Same H H'->H a=none->H' a=some (.lst xs)->Reps K H' B es xs->Q (.ref a) H')->r vs H Q
def z1z(F:List D->Option (List D))(fl:List DE):DS->Option (List D):=fun δ=>(z0j fl δ).bind F
variable{x:Str}{bid T:String}{r:List V->Hp->VK->Prop}{e:Expr}{es:List Expr}{p pos:Pos}{fl:List DE}
theorem callA{F:List D->Option D}(ho:OpA X.K r F)(σ:St)(H:Hp)(Q:VK)(h:tD X.K (z0k F fl) σ H Q):tCB r (tDs X.K (z0j fl)) σ H Q:=by
 obtain⟨B,δ,d,hB,S,q,k⟩:=h
 obtain⟨ds,e1,e2⟩:=z6A q
 exact⟨B,δ,ds,hB,S,e1,fun vs H1 s1 r1=>ho H1 B ds d vs Q (hB.mono s1) r1 e2 fun v H' s' rv=>k v H' (s1.trans s') rv⟩
theorem callL{F:List D->Option (List D)}(ho:OpL X.K r F)(σ:St)(H:Hp)(Q:VK)(h:tF X.K (z1z F fl) σ H Q):tCB r (tDs X.K (z0j fl)) σ H Q:=by
 obtain⟨B,δ,d,hB,S,q,k⟩:=h
 unfold z1z at q
 cases e1:z0j fl δ with
 |none=>rw[e1]at q;cases q
 |some ds=>
  rw[e1]at q
  exact⟨B,δ,ds,hB,S,e1,fun vs H1 s1 r1=>ho H1 B ds d vs Q (hB.mono s1) r1 q fun a xs H' s' hn ha rv=>k a xs H' (s1.trans s') (s1.free hn) ha rv⟩
theorem z9V{F:List D->Option D}(hc:z5r X (.builtin bid) r)(hD:OpA X.K r F)(hg:Gl X x)(hm:X.mg x=none)(hv:fE x=some (.builtin bid))(ha:PAD X (e::es) fl)(hn:x ≠ "__name__" := by decide)(hdb:(x==("__debug__" : Str))=false:=by decide)
  (he:starEach (e::es) X.env=(false,eval e X.env)::starEach es X.env:=by rfl) (hpl:(fD pos (starEach es X.env)).any (·.1)=false:=by rfl):PD X (.Call (.Name x p) (e::es) [] pos) (z0k F fl):=
 (z5W hc hg hm hv ha hn hdb he hpl).imp (callA hD)
theorem x1r{F:List D->Option D}(hc:z5r X (.type T) r)(hD:OpA X.K r F)(hg:Gl X x)(hm:X.mg x=none)(hv:fE x=some (.type T))(ha:PAD X (e::es) fl)(hn:x ≠ "__name__" := by decide)(hdb:(x==("__debug__" : Str))=false:=by decide)
  (he:starEach (e::es) X.env=(false,eval e X.env)::starEach es X.env:=by rfl) (hpl:(fD pos (starEach es X.env)).any (·.1)=false:=by rfl):PD X (.Call (.Name x p) (e::es) [] pos) (z0k F fl):=
 (z7T hc hg hm hv ha hn hdb he hpl).imp (callA hD)
theorem x1P{F:List D->Option (List D)}(hc:z5r X (.type T) r)(hD:OpL X.K r F)(hg:Gl X x)(hm:X.mg x=none)(hv:fE x=some (.type T))(ha:PAD X (e::es) fl)(hn:x ≠ "__name__" := by decide)(hdb:(x==("__debug__" : Str))=false:=by decide)
  (he:starEach (e::es) X.env=(false,eval e X.env)::starEach es X.env:=by rfl) (hpl:(fD pos (starEach es X.env)).any (·.1)=false:=by rfl):PF X (.Call (.Name x p) (e::es) [] pos) (z1z F fl):=
 (z7T hc hg hm hv ha hn hdb he hpl).imp (callL hD)
theorem z5k{K:aa}{H:Hp}{B:Addr->Prop}{d:D}{vs:List V}(h:Reps K H B [d] vs):∃v,vs=[v]∧Rep K H B d v:=by
 unfold Reps at h
 obtain⟨x,r,rfl,h1,h2⟩:=h
 unfold Reps at h2
 subst h2
 exact⟨x,rfl,h1⟩
theorem reps2{K:aa}{H:Hp}{B:Addr->Prop}{d e:D}{vs:List V}(h:Reps K H B [d,e] vs):∃v u,vs=[v,u]∧Rep K H B d v∧Rep K H B e u:=by
 unfold Reps at h
 obtain⟨x,r,rfl,h1,h2⟩:=h
 obtain⟨u,rfl,h3⟩:=z5k h2
 exact⟨x,u,rfl,h1,h3⟩
def z1M:List D->Option D
 |[.lst ds]=>some (.int ds.length)
 |[.tup ds]=>some (.int ds.length)
 |[.scr ns]=>some (.int ns.length)
 |_=>none
theorem oa_len{K:aa}:OpA K (fun xs H Q=>∃x n,xs=[x]∧LenV K x H n∧Q (.int n) H) z1M:=by
 intro H B ds d vs Q hB hr q k
 unfold z1M at q
 split at q
 ·cases q
  obtain⟨v,rfl,r⟩:=z5k hr
  unfold Rep at r
  obtain⟨a,xs,rfl,_,h,rs⟩:=r
  refine⟨.ref a,xs.length,rfl,.inl ⟨xs,SqL.of h,rfl⟩,k _ H (.refl H) ?_⟩
  show V.int _=V.int _
  rw[rs.length]
 ·cases q
  obtain⟨v,rfl,r⟩:=z5k hr
  unfold Rep at r
  obtain⟨a,xs,rfl,h,rs⟩:=r
  refine⟨.ref a,xs.length,rfl,.inr ⟨xs,h,rfl⟩,k _ H (.refl H) ?_⟩
  show V.int _=V.int _
  rw[rs.length]
 ·cases q
  obtain⟨v,rfl,r⟩:=z5k hr
  unfold Rep at r
  obtain⟨a,rfl,h⟩:=r
  exact⟨.ref a,_,rfl,.inl ⟨_,h.sq,(ao ..).symm⟩,k _ H (.refl H) rfl⟩
 ·cases q
theorem z0J{f:DE}(hg:Gl X "len")(hm:X.mg "len" = none)(h:PD X e f)(he:starEach [e] X.env=[(false,eval e X.env)]:=by rfl):PD X (.Call (.Name "len" p) [e] [] pos) (z0k z1M [f]):=
 z9V x1k oa_len hg hm PySem.boot_len (z0a h z0d he) nofun nofun he rfl
def z9W:List D->Option (List Bool)
 |[]=>some []
 |.bl b::r=>(z9W r).map (b :: ·)
 |_=>none
def z2O:List D->Option (List Int)
 |[]=>some []
 |.int i::r=>(z2O r).map (i :: ·)
 |_=>none
theorem z8U{K:aa}{H:Hp}{B:Addr->Prop}:∀{ds:List D} {bs:List Bool} {xs:List V},z9W ds=some bs->Reps K H B ds xs->xs=bs.map V.bl
 |[],_,_,e,h=>by cases e;unfold Reps at h;exact h
 |.bl b::r,bs,xs,e,h=>by
  unfold z9W at e
  cases q:z9W r with
  |none=>rw[q]at e;cases e
  |some cs=>
   rw[q]at e
   cases e
   unfold Reps at h
   obtain⟨x,r',rfl,h1,h2⟩:=h
   rw[z8U q h2,show x=V.bl b from h1]
   rfl
 |.non::_,_,_,e,_=>nomatch e
 |.int _::_,_,_,e,_=>nomatch e
 |.str _::_,_,_,e,_=>nomatch e
 |.lst _::_,_,_,e,_=>nomatch e
 |.tup _::_,_,_,e,_=>nomatch e
 |.dct _ _::_,_,_,e,_=>nomatch e
 |.exc _::_,_,_,e,_=>nomatch e
 |.obj _ _ _ _::_,_,_,e,_=>nomatch e
 |.cel _ _::_,_,_,e,_=>nomatch e
 |.scr _::_,_,_,e,_=>nomatch e
theorem y1d{K:aa}{H:Hp}{B:Addr->Prop}:∀{ds:List D} {bs:List Int} {xs:List V},z2O ds=some bs->Reps K H B ds xs->xs=bs.map V.int
 |[],_,_,e,h=>by cases e;unfold Reps at h;exact h
 |.int b::r,bs,xs,e,h=>by
  unfold z2O at e
  cases q:z2O r with
  |none=>rw[q]at e;cases e
  |some cs=>
   rw[q]at e
   cases e
   unfold Reps at h
   obtain⟨x,r',rfl,h1,h2⟩:=h
   rw[y1d q h2,show x=V.int b from h1]
   rfl
 |.non::_,_,_,e,_=>nomatch e
 |.bl _::_,_,_,e,_=>nomatch e
 |.str _::_,_,_,e,_=>nomatch e
 |.lst _::_,_,_,e,_=>nomatch e
 |.tup _::_,_,_,e,_=>nomatch e
 |.dct _ _::_,_,_,e,_=>nomatch e
 |.exc _::_,_,_,e,_=>nomatch e
 |.obj _ _ _ _::_,_,_,e,_=>nomatch e
 |.cel _ _::_,_,_,e,_=>nomatch e
 |.scr _::_,_,_,e,_=>nomatch e
theorem y3X:∀{bs:List Bool} {us:List Value},Vals (bs.map V.bl) us->PyProof.Rows.LSm.BoolsAre us bs
 |[],_,.nil=>.nil
 |b::bs,_,.cons r t=>by
  cases r
  exact .cons b (y3X t)
theorem y6W(hc:X.calm=true):z5r X (.builtin "all") (fun xs H Q=>∃(p:Addr) (bs:List Bool),xs=[.ref p]∧SqL X.K H p (bs.map V.bl)∧Q (.bl (bs.all (fun b=>b))) H):=by
 intro pins s σ H xs us Q I r h
 obtain⟨p,bs,rfl,hq,q⟩:=h
 obtain⟨u,rfl,ru⟩:=y0a r
 cases ru
 obtain⟨its,rv,pl,hz⟩:=I.list hq
 have hl:=pl.isList
 have hb:=y3X rv
 have hlt:p<s.heap.objs.size:=by obtain⟨_,e,_⟩:=hl;exact Heap.lt_size e
 refine call_all_walk (wpAny_pyIter_list hl ?_)
 refine⟨s.heap.objs.size,[s.heap.objs.size,p],[s.heap.objs.size],its.toArray.size,_,_,fun i=>(bs[i]?).getD true,rfl,Walks.list (A:=X.A.in1) (I.ok.hd hc) _ p (aE hlt) its.toArray,
  ⟨⟨_,Heap.get?_push_size _ rfl,rfl,rfl⟩,hl.push _⟩,fun i v s' Q' E' hP hQ=>?_,fun h' tk hk=>?_⟩
 ·obtain⟨b,e,rfl⟩:=hb.get i v (by simpa using hP)
  simp only[e,dF]at hQ
  exact wpAny_truthy_bool hQ
 ·have e:((ah its.toArray.size).all fun i=>(bs[i]?).getD true)=bs.all (fun b=>b):=by
   rw[ay,hb.length];exact LSm.range_all bs
  rw[e]
  exact⟨.bl _,H,I.kept (LSm.kept_iter hk),rfl,q⟩
def allF:List D->Option D
 |[.lst ds]=>(z9W ds).map fun bs=>.bl (bs.all (fun b=>b))
 |_=>none
theorem oa_all{K:aa}:OpA K (fun xs H Q=>∃(p:Addr) (bs:List Bool),xs=[.ref p]∧SqL K H p (bs.map V.bl)∧Q (.bl (bs.all (fun b=>b))) H) allF:=by
 intro H B ds d vs Q hB hr q k
 unfold allF at q
 split at q
 ·rename_i es
  cases e:z9W es with
  |none=>rw[e]at q;cases q
  |some bs=>
   rw[e]at q
   cases q
   obtain⟨v,rfl,r⟩:=z5k hr
   unfold Rep at r
   obtain⟨a,xs,rfl,_,h,rs⟩:=r
   rw[z8U e rs]at h
   exact⟨a,bs,rfl,SqL.of h,k _ H (.refl H) rfl⟩
 ·cases q
theorem x3N{f:DE}(hc:X.calm=true)(hg:Gl X "all")(hm:X.mg "all" = none)(h:PD X e f)(he:starEach [e] X.env=[(false,eval e X.env)]:=by rfl):PD X (.Call (.Name "all" p) [e] [] pos) (z0k allF [f]):=
 z9V (y6W hc) oa_all hg hm PyProof.Rows.Boot.«all» (z0a h z0d he) nofun nofun he rfl
def z6Q:List D->Option (List D)
 |[.lst ds]=>some ds
 |[.tup ds]=>some ds
 |[.scr ns]=>some (ns.map .int)
 |_=>none
theorem ol_list{K:aa}:OpL K (fun xs H Q=>∃p ys,xs=[.ref p]∧(SqL K H p ys∨SqT K H p ys)∧∀l,H l=none->Q (.ref l) (upd H l (.lst ys))) z6Q:=by
 intro H B ds es vs Q hB hr q k
 unfold z6Q at q
 split at q
 ·cases q
  obtain⟨v,rfl,r⟩:=z5k hr
  unfold Rep at r
  obtain⟨a,xs,rfl,_,h,rs⟩:=r
  exact⟨a,xs,rfl,.inl (SqL.of h),fun l hl=>k l xs _ (z0s hl) hl z0r (rs.mono (z0s hl))⟩
 ·cases q
  obtain⟨v,rfl,r⟩:=z5k hr
  unfold Rep at r
  obtain⟨a,xs,rfl,h,rs⟩:=r
  exact⟨a,xs,rfl,.inr h,fun l hl=>k l xs _ (z0s hl) hl z0r (rs.mono (z0s hl))⟩
 ·cases q
  obtain⟨v,rfl,r⟩:=z5k hr
  unfold Rep at r
  obtain⟨a,rfl,h⟩:=r
  exact⟨a,_,rfl,.inl h.sq,fun l hl=>k l _ _ (z0s hl) hl z0r (z1G _)⟩
 ·cases q
theorem z4n{f:DE}(hg:Gl X "list")(hm:X.mg "list" = none)(h:PD X e f)(he:starEach [e] X.env=[(false,eval e X.env)]:=by rfl):PF X (.Call (.Name "list" p) [e] [] pos) (z1z z6Q [f]):=
 x1P y1n ol_list hg hm PyProof.Rows.Boot.«list» (z0a h z0d he) nofun nofun he rfl
def tupF:List D->Option D
 |[.lst ds]=>some (.tup ds)
 |[.tup ds]=>some (.tup ds)
 |_=>none
end
end L2
namespace L2
open PySem PySem.Spec PyProof.Rows
def tyN:D->String
 |.non => "NoneType"
 |.bl _ => "bool"
 |.int _ => "int"
 |.str _ => "str"
 |.lst _ => "list"
 |.tup _ => "tuple"
 |.scr _ => "list"
 |.dct _ _ => "dict"
 |.exc _ => "object"
 |.obj _ _ _ _ => "object"
 |.cel _ _ => "list"
inductive IsT:String->Prop where
 |bool:IsT "bool" |int:IsT "int" |str:IsT "str" |list:IsT "list" |tuple:IsT "tuple" |dict:IsT "dict"
def isF(T:String)(d:D):Bool:=tyN d==T||(tyN d == "bool" && T == "int")
theorem kit_tt(K:aa){T:String}(h:IsT T)(d:D)(hd:∀x,d≠.exc x)(hd2:∀x a ks ds,d≠.obj x a ks ds):aN K (.type (tyN d)) (.type T)=some (isF T d):=by
 cases h <;> cases d <;> first | kernel_rfl | exact absurd rfl (hd _) | exact absurd rfl (hd2 _ _ _ _)
section
variable{prog:fw}{w:fx}{A:Around}{E:Value->dw->Prop}{K:aa}{x D:Addr}{ox:Obj}{s:dw}
theorem y7T{Q:Option Value->dw->Prop}(X:K.In s.heap)(I:cW s.heap x ox D none)(hga:aV K (.ref D) "__getattribute__" = some (some (.builtin "BaseException.__getattribute__")))(hgh:aV K (.ref D) "__getattr__" = some none)
  (hf:dN K D none "__class__" = some (.bind (.builtin "getset_descriptor.__get__") (.builtin "object.__class__"))) (hm:bG K D (.type "object")=some true) (hb:bG K D (.type "BaseException")=some true)
  (h:Q (some (.ref D)) { s with toks:=s.toks+1 }):wpAny (model prog w) A (getAttr? (.ref x) "__class__") Q E s:=by
 obtain⟨hp,gs,dr,tk,os⟩:=s
 have T0:=I.type (M:=model prog w)
 have T1:=eM (M:=model prog w) X hga
 have T2:=eM (M:=model prog w) X hgh
 have T3:=PySem.W.looks_find (M:=model prog w) X I hf
 have T4:=PySem.W.looks_mroIn (M:=model prog w) X hb
 have hne:(onTheHeap (Value.ref D)&&Value.builtin "BaseException.__getattribute__" == Value.builtin "object.__getattribute__")=false:=by
  have z:(Value.builtin "BaseException.__getattribute__" == Value.builtin "object.__getattribute__")=false:=by decide +kernel
  rw[z,eu]
 unfold getAttr? getAttrBy?
 refine wpAny_bind (wpAny_mkText ?_)
 refine wpAny_bind (wpAny_attempt ?_)
 unfold getAttrBy
 refine wpAny_holding (wpAny_bind (T0.at ?_))
 refine wpAny_bind (T1.at ?_)
 dsimp only
 rw[hne,if_neg av]
 unfold getAttrByItsOwn hookBefore
 rw[if_pos (show onTheHeap (Value.ref D)=true from rfl)]
 refine wpAny_bind (T2.at ?_)
 refine wpAny_bind (wpAny_attempt (wpAny_holding ?_))
 unfold callGetattribute boundAndCalled
 rw[cJ,if_neg av,F.excAttr_ValueError.ga.bind]
 refine wpAny_bind (wpAny_pure ?_)
 refine wpAny_call (codeAny_call_builtin F.excAttr_ValueError.ga.plain F.entry_bexc_ga ?_)
 have k1:builtinKind "BaseException.__getattribute__" = some .slot:=by decide +kernel
 have k2:splitId "BaseException.__getattribute__" = some ("BaseException", "__getattribute__"):=by decide +kernel
 simp only[checkBuiltinCall,k1,k2]
 have ha:=F.args_bexc_ga (.ref x) (.str "__class__" tk)
 have TI:PySem.W.Looks (model prog w) hp (isInstance (.ref x) (.type "BaseException")) true:=T0.andThen T4
 show wpAny _ _ (isInstance (.ref x) (.type "BaseException") >>= _) _ _ _
 refine wpAny_bind (TI.at ?_)
 rw[if_neg nofun]
 unfold argsOk at ha
 refine wpAny_of_eq (a:=()) ha ?_
 unfold Builtin.«object.__getattribute__»
 refine wpAny_bind (wpAny_of_eq (a:=(Value.ref x,[Value.str "__class__" tk])) rfl ?_)
 dsimp only
 refine wpAny_bind (wpAny_of_eq (a:=("__class__" : Str)) rfl ?_)
 refine wpAny_bind (T0.at ?_)
 refine wpAny_bind (T3.at ?_)
 show wpAny _ _ (holding [Value.builtin "object.__class__"] (call (.builtin "getset_descriptor.__get__") [.builtin "object.__class__",.ref x,.ref D]) >>= ret) _ _ _
 refine wpAny_bind (wpAny_holding (wpAny_call (PySem.W.class_get X I hm ?_)))
 refine wpAny_pure ?_
 exact PySem.W.handed_on rfl (wpAny_pure h)
end
theorem xcls_of{K:aa}{C:Addr}(h:z5q K C=true):aV K (.ref C) "__getattribute__" = some (some (.builtin "BaseException.__getattribute__"))∧aV K (.ref C) "__getattr__" = some none∧bG K C (.type "BaseException")=some true∧(d9 K C).isSome=true ∧
  aV K (.ref C) "__class__" = some (some (.builtin "object.__class__"))∧bT K (.builtin "object.__class__") "__get__" = some (some (.builtin "getset_descriptor.__get__"))∧cD K (.builtin "object.__class__")=some true∧bG K C (.type "object")=some true:=by
 unfold z5q at h
 simp only[aJ,beq_iff_eq]at h
 exact⟨h.1.1.1.1.1.1.1.1,h.1.1.1.1.1.1.1.2,h.1.1.1.1.1.1.2,h.1.1.1.1.1.2,h.1.1.1.1.2,h.1.1.1.2,h.1.1.2,h.1.2⟩
theorem icls_of{K:aa}{C:Addr}{ks:List Str}(h:y5i K C ks=true):Cls K C∧aV K (.ref C) "__class__" = some (some (.builtin "object.__class__"))∧bT K (.builtin "object.__class__") "__get__" = some (some (.builtin "getset_descriptor.__get__"))∧cD K (.builtin "object.__class__")=some true∧bG K C (.type "object")=some true ∧
  (["bool", "int", "str", "list", "tuple", "dict"].all fun T=>aN K (.ref C) (.type T)==some false)=true∧∀f∈ks,NoAttr K C f:=by
 unfold y5i at h
 rw[aq,aq,aq,aq,aq,aq,aq,aq,aq]at h
 obtain⟨⟨⟨⟨⟨⟨⟨⟨⟨a1,a2⟩,a3⟩,a4⟩,a5⟩,a6⟩,a7⟩,a8⟩,a9⟩,a10⟩:=h
 rw[az]at a10
 exact⟨⟨a1,a2,a3,beq_iff_eq.mp a4⟩,beq_iff_eq.mp a5,beq_iff_eq.mp a6,beq_iff_eq.mp a7,beq_iff_eq.mp a8,a9,fun f hf=>beq_iff_eq.mp (a10 f hf)⟩
theorem y4c{K:aa}{x C:Addr}{ox:Obj}(h:z5q K C=true):PySem.W.KitX K (.ref x) (.ref C) (fun g=>cW g x ox C none):=by
 obtain⟨g1,g2,g3,h2,h3,h4,h5,h6⟩:=xcls_of h
 obtain⟨cd,hcd⟩:=cL.mp h2
 have hk:∃c d sl,K.lookup C=some ⟨c,d,.cls cd,sl⟩:=by
  unfold d9 at hcd
  split at hcd
  ·cases hcd;exact⟨_,_,_,by assumption⟩
  ·cases hcd
 obtain⟨c0,d0,sl0,hk⟩:=hk
 have hf:dN K C none "__class__" = some (.bind (.builtin "getset_descriptor.__get__") (.builtin "object.__class__")):=by
  unfold dN
  rw[hcd,aj,h3,aj]
  simp[h4,h5]
 refine⟨fun _ _ _ I=>I.type,fun _ _ X _=>?_,fun g tp dd its n sl X ht=>?_,fun X I k=>?_⟩
 ·intro A' Q' E' s' kk q
  unfold isType loadHead
  exact wpAny_bind (wpAny_loadPart (kk _ _ (X _ _ hk)) (wpAny_pure q))
 ·cases hz:(Value.ref C==Value.ref tp)with
  |false=>rfl
  |true=>
   have e:C=tp:=Value.ref.inj (beq_iff_eq.mp hz)
   rw[←e]at ht
   have z:=(X _ _ hk).symm.trans ht
   cases z
 ·exact y7T X I g1 g2 hf h6 g3 k
theorem x3h{X:Cx}{pins:AO}{σ:St}{H:Hp}{s:dw}{a C:Addr}(I:Inv X pins σ H s)(h:H a=some (.ext (isX a C))):∃o,cW s.heap a o C none:=by
 obtain⟨⟨o,h1,h2,h3,h4⟩,_⟩:=(show ObjOk X.prog X.w H s.heap a (.ext (isX a C)) from I.hok a _ h)
 exact⟨o,h1,h2,h4,by rw[h3];trivial⟩
section
variable{X:Cx}{pins:AO}{σ:St}{H:Hp}{s:dw}{B:Addr->Prop}{A:Around}{E:Value->dw->Prop}{Q:Value->dw->Prop}
theorem y5k{d:D}{v:V}{u:Value}{T:String}(I:Inv X pins σ H s)(r:Rep X.K H B d v)(rv:RelV v u)(hT:IsT T)(h:∀tk,Q (.bool (isF T d)) { s with toks:=tk }):wpAny (model X.prog X.w) A (call (.builtin "isinstance") [u,.type T]) Q E s:=by
 by_cases hd:∃x,d = .exc x
 ·obtain⟨x,rfl⟩:=hd
  unfold Rep at r
  obtain⟨a,C,rfl,_,hq,_,hx⟩:=r
  cases rv
  obtain⟨o,ie⟩:=x3h I hq
  have e:aN X.K (.ref C) (.type T)=some (isF T (.exc x)):=by
   have h6:=(aq.mp hx).2
   rw[az]at h6
   have h7:=beq_iff_eq.mp (h6 T (by cases hT <;> decide))
   rw[h7]
   cases hT <;> rfl
  exact bg (y4c hx) I.kIn ie e (fun z=>nomatch z) h
 have hd:∀x,d≠.exc x:=fun x z=>hd ⟨x,z⟩
 by_cases hd2:∃x a ks ds,d = .obj x a ks ds
 ·obtain⟨x,a,ks,ds,rfl⟩:=hd2
  unfold Rep at r
  obtain⟨C,dx,fs,_,hq,⟨rfl,_,hx,_⟩,_⟩:=r
  cases rv
  obtain⟨cl,h3,h4,h5,h6,h7,_⟩:=icls_of hx
  obtain⟨mA,O,_⟩:=ins_get I.hok hq
  obtain⟨od,J,_⟩:=O.look
  have e:aN X.K (.ref C) (.type T)=some (isF T (.obj x a ks ds)):=by
   rw[az]at h7
   have h8:=beq_iff_eq.mp (h7 T (by cases hT <;> decide))
   rw[h8]
   cases hT <;> rfl
  exact bg (PySem.W.kitx_own (cl.get _) cl.hd h3 h4 h5 h6) I.kIn J e (fun z=>nomatch z) h
 have e:=kit_tt X.K hT d hd (fun x a ks ds z=>hd2 ⟨x,a,ks,ds,z⟩)
 cases d with
 |exc x=>exact absurd rfl (hd x)
 |obj x a ks ds=>exact absurd ⟨x,a,ks,ds,rfl⟩ hd2
 |non=>cases r;cases rv;exact bg PySem.W.kitx_none I.kIn True.intro e (fun z=>nomatch z) h
 |bl y=>cases r;cases rv;exact bg PySem.W.kitx_bool I.kIn True.intro e (fun z=>nomatch z) h
 |int i=>cases r;obtain⟨t,q⟩:=rv;cases q;exact bg PySem.W.kitx_int I.kIn True.intro e (fun z=>nomatch z) h
 |str y=>cases r;obtain⟨t,q⟩:=rv;cases q;exact bg PySem.W.kitx_str I.kIn True.intro e (fun z=>nomatch z) h
 |cel a ds=>
  unfold Rep at r
  obtain⟨xs,_,hq,rfl,_⟩:=r
  cases rv
  obtain⟨its,_,⟨o,n,e1,c,_⟩,_⟩:=I.list (SqL.of hq)
  exact bg dq I.kIn ⟨o,e1,c⟩ e (fun z=>nomatch z) h
 |lst ds=>
  unfold Rep at r
  obtain⟨a,xs,rfl,_,hq,_⟩:=r
  cases rv
  obtain⟨its,_,⟨o,n,e1,c,_⟩,_⟩:=I.list (SqL.of hq)
  exact bg dq I.kIn ⟨o,e1,c⟩ e (fun z=>nomatch z) h
 |tup ds=>
  unfold Rep at r
  obtain⟨a,xs,rfl,hq,_⟩:=r
  cases rv
  obtain⟨its,_,⟨o,e1,c,_⟩,_⟩:=I.tuple hq
  exact bg PySem.W.kitx_tuple I.kIn ⟨o,e1,c⟩ e (fun z=>nomatch z) h
 |scr ns=>
  unfold Rep at r
  obtain⟨a,rfl,hq⟩:=r
  cases rv
  obtain⟨its,_,⟨o,n,e1,c,_⟩,_⟩:=I.list hq.sq
  exact bg dq I.kIn ⟨o,e1,c⟩ e (fun z=>nomatch z) h
 |dct ks ds=>
  unfold Rep at r
  obtain⟨a,kvs,rfl,_,ea,_⟩:=r
  cases rv
  obtain⟨_,_,vs,_,p⟩:=(show ObjOk X.prog X.w H s.heap a (.dK kvs) from I.hok a _ ea)
  obtain⟨o,es,ep,h1,h2,_⟩:=p
  exact bg PySem.W.kitx_dict I.kIn ⟨o,h1,h2.1⟩ e (fun z=>nomatch z) h
end
section
variable{X:Cx}{e:Expr}{p p2 pos:Pos}
def dIs(T:String)(f:DE):DE:=fun δ=>(f δ).map fun d=>.bl (isF T d)
theorem x2p{T:String}(hT:IsT T):z5r X (.builtin "isinstance") (fun xs H Q=>∃B d v,xs=[v,.ty T]∧Rep X.K H B d v∧Q (.bl (isF T d)) H):=by
 intro pins s σ H xs us Q I r h
 obtain⟨B,d,v,rfl,rv,q⟩:=h
 obtain⟨u,w',rfl,r1,r2⟩:=vals2 r
 cases r2
 exact y5k I rv r1 hT fun tk=>⟨.bl _,H,I.tok tk,rfl,q⟩
theorem x1G{f:DE}{x:Str}{T:String}(hT:IsT T)(hb:fE x=some (.type T))(hx:Gl X x)(hmx:X.mg x=none)(hnx:x ≠ "__name__")(hdx:(x==("__debug__" : Str))=false)(hg:Gl X "isinstance")(hm:X.mg "isinstance" = none)(h:PD X e f)
  (he:starEach [e,.Name x p2] X.env=[(false,eval e X.env),(false,eval (.Name x p2) X.env)]:=by rfl) (he2:starEach [.Name x p2] X.env=[(false,eval (.Name x p2) X.env)]:=by rfl):PD X (.Call (.Name "isinstance" p) [e,.Name x p2] [] pos) (dIs T f):=
 (z5W (x2p hT) hg hm boot_isinstance (z1e h (z1e (y6o (v:=.ty T) hx hmx hb rfl hnx hdx) pa_nil he2) (by rw[he,he2])) nofun nofun (by rw[he,he2]) (by rw[he2];rfl)).imp fun σ H Q ⟨B,δ,d,hB,S,q,k⟩=>by
  unfold dIs at q
  cases e1:f δ with
  |none=>rw[e1]at q;cases q
  |some d'=>
   rw[e1]at q
   cases q
   exact⟨B,δ,d',hB,S,e1,fun v H1 s1 r1=>⟨B,d',v,rfl,r1,k _ H1 s1 rfl⟩⟩
theorem y1t{f:DE}(hx:Gl X "bool")(hmx:X.mg "bool" = none)(hg:Gl X "isinstance")(hm:X.mg "isinstance" = none)(h:PD X e f)(he:starEach [e,.Name "bool" p2] X.env=[(false,eval e X.env),(false,eval (.Name "bool" p2) X.env)]:=by rfl):
  PD X (.Call (.Name "isinstance" p) [e,.Name "bool" p2] [] pos) (dIs "bool" f):=x1G .bool PyProof.Rows.Boot.«bool» hx hmx nofun nofun hg hm h he rfl
theorem y4N{f:DE}(hx:Gl X "int")(hmx:X.mg "int" = none)(hg:Gl X "isinstance")(hm:X.mg "isinstance" = none)(h:PD X e f)(he:starEach [e,.Name "int" p2] X.env=[(false,eval e X.env),(false,eval (.Name "int" p2) X.env)]:=by rfl):
  PD X (.Call (.Name "isinstance" p) [e,.Name "int" p2] [] pos) (dIs "int" f):=x1G .int PyProof.Rows.Boot.«int» hx hmx nofun nofun hg hm h he rfl
theorem y9h{f:DE}(hx:Gl X "list")(hmx:X.mg "list" = none)(hg:Gl X "isinstance")(hm:X.mg "isinstance" = none)(h:PD X e f)(he:starEach [e,.Name "list" p2] X.env=[(false,eval e X.env),(false,eval (.Name "list" p2) X.env)]:=by rfl):
  PD X (.Call (.Name "isinstance" p) [e,.Name "list" p2] [] pos) (dIs "list" f):=x1G .list PyProof.Rows.Boot.«list» hx hmx nofun nofun hg hm h he rfl
theorem x1z{f:DE}(hx:Gl X "tuple")(hmx:X.mg "tuple" = none)(hg:Gl X "isinstance")(hm:X.mg "isinstance" = none)(h:PD X e f)(he:starEach [e,.Name "tuple" p2] X.env=[(false,eval e X.env),(false,eval (.Name "tuple" p2) X.env)]:=by rfl):
  PD X (.Call (.Name "isinstance" p) [e,.Name "tuple" p2] [] pos) (dIs "tuple" f):=x1G .tuple PyProof.Rows.Boot.«tuple» hx hmx nofun nofun hg hm h he rfl
end
def y2F(i:Nat):Option SD->Option SD
 |some (.bo r d)=>if r=i then none else some (.bo r d)
 |o=>o
def z0M(i:Nat)(δ:SS):SS:=δ.map (y2F i)
theorem z4A{i j:Nat}{δ:SS}{x:SD}(h:(z0M i δ)[j]? = some (some x)):δ[j]? = some (some x)∧∀d,x≠.bo i d:=by
 unfold z0M at h
 rw[aG]at h
 cases e:δ[j]? with
 |none=>rw[e]at h;cases h
 |some o=>
  rw[e]at h
  have h':y2F i o=some x:=Option.some.inj h
  unfold y2F at h'
  split at h'
  ·rename_i r d
   split at h'
   ·cases h'
   ·rename_i hr
    cases h'
    exact⟨rfl,fun d' z=>by cases z;exact hr rfl⟩
  ·rename_i hn
   subst h'
   exact⟨rfl,fun d z=>hn i d (by rw[z])⟩
section
variable{K:aa}{H0 H:Hp}{B0:Addr->Prop}{σ:St}{δ:SS}{R:Nat->List Addr}
theorem RS.rewrite{Hold:Hp}{i:Nat}{d d':D}{a:Addr}{o:HO}{v:V}{A':List Addr}(h:RS K H0 B0 Hold σ δ R)(e:Same Hold H)(hi:δ[i]? = some (some (.ow d)))(hv:σ[i]? = some (some v))(ha:a∈R i)(t:Tree K (upd H a o) d' v A')(nd:A'.Nodup)(sub:∀b∈A',b∈R i∨Hold b=none):
  RS K H0 B0 (upd H a o) σ ((z0M i δ).set i (some (.ow d'))) (y0n R i A')∧Stp R Hold (y0n R i A') (upd H a o):=by
 have hm:=h.mono e
 obtain⟨oa,ea,ma⟩:=hm.held i a ha
 have mH:Mut (H a):=by rw[ea];exact ma
 have mem:∀r b,b∈y0n R i A' r->b∈R r∨(r=i∧Hold b=none):=fun r b z=>by
  by_cases hr:r=i
  ·subst hr;rw[z0U]at z;exact(sub b z).imp id fun q=>⟨rfl,q⟩
  ·rw[z1s hr]at z;exact .inl z
 have kt:KeepI K H (upd H a o):=(Keep.upd (K:=K) (B:=fun x=>x=a) rfl mH).i
 have nh:∀r b,b∈R r->Hold b=none->False:=fun r b z q=>by
  obtain⟨u,q',_⟩:=h.held r b z
  rw[q]at q';cases q'
 refine⟨⟨fun b u q=>?_,h.inB,by simp[z0M,h.len],fun r b z=>?_,fun r b z=>?_,fun r s b z z'=>?_,fun j d2 z=>?_,fun j r2 d2 z=>?_,fun j d2 z=>?_⟩,⟨fun b u q n=>?_,fun r b z=>?_,fun b z=>?_⟩⟩
 ·have ne:b≠a:=fun z=>by subst z;rw[h.new i b ha]at q;cases q
  rw[z0y ne];exact hm.keep b u q
 ·rcases mem r b z with z | ⟨_,z⟩
  ·exact h.new r b z
  ·exact h.keep.free z
 ·by_cases hr:r=i
  ·subst hr;rw[z0U]at z;exact t.held d' b z
  ·rw[z1s hr]at z
   have ne:b≠a:=fun q=>hr (h.disj r i b z (q ▸ ha))
   rw[z0y ne];exact hm.held r b z
 ·rcases mem r b z with z | ⟨z1,z2⟩ <;> rcases mem s b z' with z' | ⟨z1',z2'⟩
  ·exact h.disj r s b z z'
  ·exact(nh r b z z2').elim
  ·exact(nh s b z' z2).elim
  ·rw[z1,z1']
 ·rcases z2p z with⟨rfl,q,_⟩ | ⟨hj,q⟩
  ·cases q
  ·obtain⟨q1,_⟩:=z4A q
   obtain⟨w,e1,r⟩:=h.sh j d2 q1
   have r2:=(Rep.wide (C:=fun b=>Hold b=none) (fun _ z=>z) d2 r).mono e
   refine⟨w,e1,Rep.anti ?_ d2 (Rep.keep (.upd (.inl (.inr ⟨i,ha⟩)) mH) d2 r2)⟩
   rintro b (z | ⟨r,z⟩)
   ·exact .inl (.inl z)
   ·rcases mem r b z with z | ⟨_,z⟩
    ·exact .inl (.inr ⟨r,z⟩)
    ·exact .inr z
 ·rcases z2p z with⟨rfl,q,_⟩ | ⟨hj,q⟩
  ·cases q
  ·obtain⟨q1,q2⟩:=z4A q
   have hr:i≠r2:=fun e=>q2 d2 (by rw[e])
   obtain⟨w,e1,r⟩:=h.bo j r2 d2 q1
   have r3:=(Rep.wide (C:=fun b=>Hold b=none) (fun _ z=>z) d2 r).mono e
   refine⟨w,e1,Rep.anti ?_ d2 (Rep.keep (.upd (.inl (.inr ⟨i,hr,ha⟩)) mH) d2 r3)⟩
   rintro b (z | ⟨s,hs,z⟩)
   ·exact .inl (.inl z)
   ·rcases mem s b z with z | ⟨_,z⟩
    ·exact .inl (.inr ⟨s,hs,z⟩)
    ·exact .inr z
 ·rcases z2p z with⟨rfl,q,_⟩ | ⟨hj,q⟩
  ·cases q
   rw[z0U]
   exact⟨v,hv,t,nd⟩
  ·obtain⟨q1,_⟩:=z4A q
   obtain⟨w,e1,t',nd'⟩:=hm.ow j d2 q1
   rw[z1s hj]
   refine⟨w,e1,Tree.keep kt d2 t' fun b hb u q=>?_,nd'⟩
   have ne:b≠a:=fun z=>by subst z;exact hj (h.disj j i b hb ha)
   rw[z0y ne];exact q
 ·have ne:b≠a:=fun z=>n i (z ▸ ha)
  rw[z0y ne];exact e b u q
 ·rcases mem r b z with z | ⟨_,z⟩
  ·exact .inl ⟨r,z⟩
  ·exact .inr z
 ·by_cases hb:b=a
  ·subst hb;rw[z0r]at z;cases z
  ·rw[z0y hb]at z;exact e.free z
mutual
theorem Tree.flat:∀(d:D) {v:V} {A:List Addr},d.imm=true->Tree K H d v A->A=[]
 |.non,_,_,_,h=>h.2
 |.bl _,_,_,_,h=>h.2
 |.int _,_,_,_,h=>h.2
 |.str _,_,_,_,h=>h.2
 |.lst _,_,_,i,_=>by unfold D.imm at i;cases i
 |.dct _ _,_,_,i,_=>by unfold D.imm at i;cases i
 |.exc _,_,_,i,_=>by unfold D.imm at i;cases i
 |.obj _ _ _ _,_,_,i,_=>by unfold D.imm at i;cases i
 |.cel _ _,_,_,i,_=>by unfold D.imm at i;cases i
 |.tup ds,_,_,i,h=>by
  unfold D.imm at i
  unfold Tree at h
  obtain⟨a,xs,_,_,r⟩:=h
  exact Trees.flat ds i r
 |.scr _,_,_,_,h=>h.2
theorem Trees.flat:∀(ds:List D) {xs:List V} {A:List Addr},z2d ds=true->Trees K H ds xs A->A=[]
 |[],_,_,_,h=>h.2
 |d::ds,_,_,i,h=>by
  unfold z2d at i
  rw[aJ]at i
  unfold Trees at h
  obtain⟨x,r,C,C',rfl,h1,h2,rfl⟩:=h
  rw[Trees.flat ds i.2 h2,aF]
  exact Tree.flat d i.1 h1
end
theorem Trees.append:∀{ds es:List D} {xs ys:List V} {A C:List Addr},Trees K H ds xs A->Trees K H es ys C->Trees K H (ds++es) (xs++ys) (A++C)
 |[],_,_,_,_,_,h,h'=>by obtain⟨rfl,rfl⟩:=h;exact h'
 |d::ds,es,_,ys,_,C,h,h'=>by
  unfold Trees at h
  obtain⟨y,r,A1,A2,rfl,h1,h2,rfl⟩:=h
  exact(show Trees K H (d::(ds++es)) (y::(r++ys)) (A1++A2++C) by unfold Trees;exact⟨y,_,A1,A2++C,rfl,h1,Trees.append h2 h',aP _ _ _⟩)
theorem Trees.split:∀{ds:List D} {xs:List V} {A:List Addr} (k:Nat),Trees K H ds xs A->∃A1 A2,A=A1++A2∧Trees K H (ds.take k) (xs.take k) A1∧Trees K H (ds.drop k) (xs.drop k) A2
 |ds,xs,A,0,h=>⟨[],A,rfl,by rw[c8,c8];exact⟨rfl,rfl⟩,h⟩
 |[],_,_,k+1,h=>by
  obtain⟨rfl,rfl⟩:=h
  exact⟨[],[],rfl,⟨rfl,rfl⟩,⟨rfl,rfl⟩⟩
 |d::ds,_,_,k+1,h=>by
  unfold Trees at h
  obtain⟨y,r,A1,A2,rfl,h1,h2,rfl⟩:=h
  obtain⟨C1,C2,rfl,h3,h4⟩:=Trees.split k h2
  refine⟨A1++C1,C2,(aP _ _ _).symm,?_,h4⟩
  rw[cH,cH]
  unfold Trees
  exact⟨y,_,A1,C1,rfl,h1,h3,rfl⟩
theorem Trees.length:∀{ds:List D} {xs:List V} {A:List Addr},Trees K H ds xs A->ds.length=xs.length
 |[],_,_,h=>by obtain⟨rfl,_⟩:=h;rfl
 |d::ds,_,_,h=>by
  unfold Trees at h
  obtain⟨x,r,_,_,rfl,_,h2,_⟩:=h
  simp[Trees.length h2]
theorem RS.top{i:Nat}{ds:List D}(h:RS K H0 B0 H σ δ R)(hi:δ[i]? = some (some (.ow (.lst ds)))):∃a xs A,σ[i]? = some (some (.ref a))∧H a=some (.lst xs)∧Trees K H ds xs A∧R i=a::A∧(a::A).Nodup:=by
 obtain⟨v,e,t,nd⟩:=h.ow i _ hi
 unfold Tree at t
 obtain⟨a,xs,A,rfl,ha,ts,e2⟩:=t
 rw[e2]at nd
 exact⟨a,xs,A,e,ha,ts,e2,nd⟩
theorem RS.put0{Hold:Hp}{i:Nat}{ds ds':List D}{a:Addr}{xs':List V}{A A':List Addr}(h:RS K H0 B0 Hold σ δ R)(e:Same Hold H)(hi:δ[i]? = some (some (.ow (.lst ds))))(hv:σ[i]? = some (some (.ref a)))(hR:R i=a::A)(nd:(a::A).Nodup)
  (t:Trees K H ds' xs' A') (nd':A'.Nodup) (sub:∀b∈A',b∈A∨Hold b=none):RS K H0 B0 (upd H a (.lst xs')) σ ((z0M i δ).set i (some (.ow (.lst ds')))) (y0n R i (a::A'))∧Stp R Hold (y0n R i (a::A')) (upd H a (.lst xs')):=by
 have ha:a∈R i:=by rw[hR];exact ac
 obtain⟨oa,ea,ma⟩:=h.held i a ha
 have nA:∀b∈A',b≠a:=fun b hb z=>by
  rcases sub b hb with q | q
  ·exact(aA.mp nd).1 (z ▸ q)
  ·rw[z,ea]at q;cases q
 have mH:Mut (H a):=by rw[e a oa ea];exact ma
 refine h.rewrite e hi hv ha ?_ (aA.mpr ⟨fun z=>nA a z rfl,nd'⟩) fun b hb=>?_
 ·unfold Tree
  refine⟨a,xs',A',rfl,z0r,Trees.keep (Keep.upd (K:=K) (B:=fun x=>x=a) rfl mH).i ds' t fun b hb o q=>?_,rfl⟩
  rw[z0y (nA b hb)];exact q
 ·rw[hR]
  rcases ai.mp hb with z | z
  ·rw[z];exact .inl ac
  ·exact(sub b z).imp (ae _) id
theorem Trees.set1{es:List D}:∀{ds:List D} {xs:List V} {A:List Addr} (k:Nat),Trees K H ds xs A->A.Nodup->ds[k]? = some (.lst es)->z2d es=true →
  ∃b ys,xs[k]? = some (.ref b)∧H b=some (.lst ys)∧b∈A∧Trees K H es ys []∧∀es' ys',Trees K H es' ys' []->Trees K (upd H b (.lst ys')) (ds.set k (.lst es')) xs A
 |[],_,_,_,_,_,e,_=>by simp at e
 |d::ds,_,_,0,h,nd,e,hi=>by
  simp at e
  subst e
  unfold Trees at h
  obtain⟨x,r,A1,A2,rfl,h1,h2,rfl⟩:=h
  unfold Tree at h1
  obtain⟨b,ys,C,rfl,hb,tb,rfl⟩:=h1
  have eC:=Trees.flat es hi tb
  subst eC
  have mH:Mut (H b):=by rw[hb];exact trivial
  have kt:∀o,KeepI K H (upd H b o):=fun o=>(Keep.upd (K:=K) (B:=fun x=>x=b) (o:=o) rfl mH).i
  refine⟨b,ys,rfl,hb,by simp,tb,fun es' ys' t'=>?_⟩
  rw[cc]
  unfold Trees
  refine⟨.ref b,r,[b],A2,rfl,?_,Trees.keep (kt _) ds h2 fun c hc o q=>?_,rfl⟩
  ·unfold Tree
   exact⟨b,ys',[],rfl,z0r,Trees.keep (kt _) es' t' (fun c hc=>nomatch hc),rfl⟩
  ·have ne:c≠b:=fun z=>(aA.mp nd).1 (by rw[←z];exact hc)
   rw[z0y ne];exact q
 |d::ds,_,_,k+1,h,nd,e,hi=>by
  unfold Trees at h
  obtain⟨x,r,A1,A2,rfl,h1,h2,rfl⟩:=h
  have ndA:=aO.mp nd
  obtain⟨b,ys,e1,hb,hbA,tb,up⟩:=Trees.set1 k h2 ndA.2.1 (by simpa using e) hi
  refine⟨b,ys,by simpa using e1,hb,aC _ hbA,tb,fun es' ys' t'=>?_⟩
  have mH:Mut (H b):=by rw[hb];exact trivial
  have kt:KeepI K H (upd H b (.lst ys')):=(Keep.upd (K:=K) (B:=fun x=>x=b) rfl mH).i
  rw[ce]
  unfold Trees
  refine⟨x,r,A1,A2,rfl,Tree.keep kt d h1 fun c hc o q=>?_,up es' ys' t',rfl⟩
  have ne:c≠b:=fun z=>ndA.2.2 c hc b hbA z
  rw[z0y ne];exact q
theorem RS.put1{Hold:Hp}{i k:Nat}{ds es:List D}(h:RS K H0 B0 Hold σ δ R)(e:Same Hold H)(hi:δ[i]? = some (some (.ow (.lst ds))))(hk:ds[k]? = some (.lst es))(hm:z2d es=true):
  ∃a xs b ys,σ[i]? = some (some (.ref a))∧Hold a=some (.lst xs)∧xs[k]? = some (.ref b)∧Hold b=some (.lst ys)∧ds.length=xs.length∧Trees K H es ys []∧∀es' ys',Trees K H es' ys' [] →
   RS K H0 B0 (upd H b (.lst ys')) σ ((z0M i δ).set i (some (.ow (.lst (ds.set k (.lst es')))))) (y0n R i (R i))∧Stp R Hold (y0n R i (R i)) (upd H b (.lst ys')):=by
 obtain⟨a,xs,A,ev,ha,ts,eR,nd⟩:=h.top hi
 obtain⟨b,ys,e1,hb,hbA,tb,_⟩:=Trees.set1 k ts (aA.mp nd).2 hk hm
 obtain⟨b',ys',e1',hb',_,tb',up⟩:=Trees.set1 k (ts.mono e) (aA.mp nd).2 hk hm
 rw[e1]at e1'
 cases e1'
 refine⟨a,xs,b,ys,ev,ha,e1,hb,ts.length,tb.mono e,fun es' zs t'=>?_⟩
 have hba:b∈R i:=by rw[eR];exact ae _ hbA
 have nba:a≠b:=fun z=>(aA.mp nd).1 (z ▸ hbA)
 refine h.rewrite e hi ev hba ?_ (by rw[eR];exact nd) fun c hc=>.inl hc
 rw[eR]
 unfold Tree
 exact⟨a,xs,A,rfl,by rw[z0y nba];exact e _ _ ha,up es' zs t',rfl⟩
end
instance{i j:Int}:Decidable (CDiv i j):=by unfold CDiv;infer_instance
instance{i j:Int}:Decidable (CPow i j):=by unfold CPow;infer_instance
instance{i j:Int}:Decidable (CMul i j):=by unfold CMul;infer_instance
def LM(K:aa)(r:V->List V->Hp->VK->Prop)(F:List D->List D->Option (List D)):Prop:=
 ∀(H:Hp) (a:Addr) (xs:List V) (ds args:List D) (vs:List V) (ds':List D) (Q:VK),H a=some (.lst xs)->ds.length=xs.length->Reps K H noB args vs->F ds args=some ds' →
  (∀(w:V) (xs':List V),(∀(H2:Hp) (A C:List Addr),Trees K H2 ds xs A->Trees K H2 args vs C->∃A',Trees K H2 ds' xs' A'∧((A++C).Nodup->A'.Nodup)∧∀b∈A',b∈A∨b∈C)->Q w (upd H a (.lst xs')))->r (.ref a) vs H Q
def y2q:List D->List D->Option (List D):=fun ds args=>match args with
 |[d]=>if ds.length<sizeLine then some (ds++[d])else none
 |_=>none
theorem z2L{K:aa}:LM K z9D y2q:=by
 intro H a xs ds args vs ds' Q ha hl hr q k
 unfold y2q at q
 split at q
 ·rename_i d
  split at q
  ·rename_i hz
   cases q
   obtain⟨y,rfl,ry⟩:=z5k hr
   refine⟨a,xs,y,rfl,rfl,ha,by rw[←hl];exact hz,k _ _ fun H2 A C t tc=>⟨A++C,t.append tc,fun z=>z,fun b hb=>au.mp hb⟩⟩
  ·cases q
 ·cases q
def y5c(n:Nat)(i:Int):Nat:=if i<0 then(i+(n:Int)).toNat else min i.toNat n
def y9b:V->List V->Hp->VK->Prop:=fun x vs H Q=>∃l xs i y,x = .ref l∧vs=[.int i,y]∧H l=some (.lst xs)∧xs.length<sizeLine∧-(2 ^ 63)≤i∧i<2 ^ 63∧Q .non (upd H l (.lst (xs.take (y5c xs.length i)++y::xs.drop (y5c xs.length i))))
theorem ins_arr(its:List Value)(k:Nat)(y:Value):(its.toArray.extract 0 k).push y++its.toArray.extract k=(its.take k++y::its.drop k).toArray:=by
 apply Array.ext'
 simp
 rw[aS (by simp)]
theorem y1B{X:Cx}:MtM X "list.insert" y9b:=by
 intro pins s σ H x vs v us Q I rx rv h
 obtain⟨l,xs,i,y,rfl,rfl,hH,hz,h1,h2,q⟩:=h
 cases rx
 obtain⟨u,w',rfl,⟨t,rfl⟩,ry⟩:=rv.two
 obtain⟨z,its,n,r,hl,e⟩:=I.lstM hH
 have hfit:Builtin.List.listFitsIndex i=true:=fitsIndex_both h1 h2
 refine call_meets F.slot_list_insert ⟨_,e,rfl⟩ F.entry_list_insert (F.args_list_insert_3 _ _ _)
  (AutoSeq1.list_insert_list_int_val_1 l its.toArray n i t w' (by rw[hfit];decide) (by rw[ay];omega)) ⟨e,?_⟩
 refine⟨.non,_,I.lset (its':=its.take (y5c its.length i)++w'::its.drop (y5c its.length i)) (ys:=xs.take (y5c xs.length i)++y::xs.drop (y5c xs.length i)) hH e ?_ ?_ ?_,rfl,q⟩
 ·show(its.toArray.extract 0 (if i<0 then(i+(its.toArray.size:Int)).toNat else min i.toNat its.toArray.size)).push w'++its.toArray.extract (if i<0 then(i+(its.toArray.size:Int)).toNat else min i.toNat its.toArray.size)=_
  rw[ins_arr,ay]
  rfl
 ·rw[←hl]
  exact(r.take _).append (.cons ry (r.drop _))
 ·have:y5c xs.length i≤xs.length∨¬ y5c xs.length i≤xs.length:=Decidable.em _
  simp only[aB,bZ,bc,dR]
  omega
def insF:List D->List D->Option (List D):=fun ds args=>match args with
 |[.int i,d]=>if ds.length<sizeLine∧-(2 ^ 63)≤i∧i<2 ^ 63 then some (ds.take (y5c ds.length i)++d::ds.drop (y5c ds.length i))else none
 |_=>none
theorem y9E{A1 A2 C:List Addr}(h:(A1++A2++C).Nodup):(A1++(C++A2)).Nodup:=by
 have p:(A1++A2++C).Perm (A1++(C++A2)):=by
  rw[aP]
  exact List.Perm.append_left _ c5
 exact p.nodup_iff.mp h
theorem y0Z{K:aa}:LM K y9b insF:=by
 intro H a xs ds args vs ds' Q ha hl hr q k
 unfold insF at q
 split at q
 ·rename_i i d
  split at q
  ·rename_i hz
   cases q
   obtain⟨v,y,rfl,rv,ry⟩:=reps2 hr
   cases (show v=V.int i from rv)
   refine⟨a,xs,i,y,rfl,rfl,ha,by rw[←hl];exact hz.1,hz.2.1,hz.2.2,k _ _ fun H2 A C t tc=>?_⟩
   rw[←hl]
   obtain⟨A1,A2,rfl,t1,t2⟩:=t.split (y5c ds.length i)
   unfold Trees at tc
   obtain⟨x1,r1,C1,C2,e1,h1,h2,rfl⟩:=tc
   cases e1
   obtain⟨_,eC1⟩:=(show V.int i=V.int i∧C1=[] from h1)
   subst eC1
   unfold Trees at h2
   obtain⟨x2,r2,C3,C4,e2,h3,h4,rfl⟩:=h2
   cases e2
   obtain⟨_,rfl⟩:=h4
   refine⟨A1++(C3++A2),t1.append ?_,fun z=>?_,fun b hb=>?_⟩
   ·unfold Trees
    exact⟨_,_,C3,A2,rfl,h3,t2,rfl⟩
   ·simp only[cG,aF]at z
    exact y9E z
   ·simp only[cG,aF,au]at hb ⊢
    rcases hb with z | z | z
    ·exact .inl (.inl z)
    ·exact .inr z
    ·exact .inl (.inr z)
  ·cases q
 ·cases q
section
variable{X:Cx}{H0:Hp}{B0:Addr->Prop}{fr:Bool}{RX:XR}{e e2:Expr}{es:List Expr}{pos ap cp:Pos}{x name:Str}{px:Pos}{bid:String}{r:V->List V->Hp->VK->Prop}{F:List D->List D->Option (List D)}{fl:List DE}
def m0(i:Nat)(F:List D->List D->Option (List D))(fl:List DE):SS->Option Out:=fun δ=>(z0j fl (z0w δ)).bind fun args=>if z2d args=true then(match δ[i]? with
 |some (some (.ow (.lst ds)))=>(F ds args).map fun ds'=>.nx ((z0M i δ).set i (some (.ow (.lst ds'))))
 |_=>none)else none
theorem m0_core{i:Nat}{to:TE}(hL:LM X.K r F)(hto:to=y1a i)(D:Ends)(σ:St)(H:Hp)(h:tS X.K H0 B0 fr RX (m0 i F fl) D σ H):x1V (tBM X.K "list" r to (tDs X.K (z0j fl))) D σ H:=by
 subst hto
 obtain⟨δ,R,o,rs,q,k⟩:=h
 unfold m0 at q
 cases e1:z0j fl (z0w δ)with
 |none=>rw[e1]at q;cases q
 |some args=>
  rw[e1]at q
  have q:(if z2d args=true then(match δ[i]? with | some (some (.ow (.lst ds)))=>(F ds args).map fun ds'=>Out.nx ((z0M i δ).set i (some (.ow (.lst ds')))) | _=>none)else none)=some o:=q
  split at q
  case isFalse=>cases q
  case isTrue hi=>
  split at q
  case h_2=>cases q
  case h_1 ds ei=>
  cases e2:F ds args with
  |none=>rw[e2]at q;cases q
  |some ds'=>
   rw[e2]at q
   cases q
   obtain⟨a,xs,A,ev,ha,ts,eR,nd⟩:=rs.top ei
   refine⟨.ref a,ev,.inl ⟨rfl,xs,SqL.of ha⟩,noB,z0w δ,args,.no,rs.all,e1,fun vs H2 s2 r2=>?_⟩
   refine hL H2 a xs ds args vs ds' _ (s2 _ _ ha) ts.length r2 e2 fun w xs' up=>?_
   obtain⟨A',t',n',sub⟩:=up H2 A [] (ts.mono s2) (r2.immTree args hi)
   have P:=rs.put0 s2 ei ev eR nd t' (n' (by rw[aF];exact(aA.mp nd).2)) fun b hb=>(sub b hb).imp id (fun z=>nomatch z)
   exact k σ _ _ P.1 P.2
theorem x1R{i:Nat}(slot:Slot "list" name bid)(hty:typeOf (.builtin bid)=pure (.type "method_descriptor"))(hm:MtM X bid r)(hL:LM X.K r F)(hx:PE X (.Name x px) (y1a i))(ha:PAD X (e::es) fl)
  (hbase:fG (.Name x px) name X.env (eval (.Name x px) X.env)=eval (.Name x px) X.env:=by rfl)
  (hfew:((fD cp (starEach (e::es) X.env)).all (fun x=>!x.1)&&(backToKw cp (keywordEach [] X.env)).all (fun x=>x.1.isSome)&&decide ((e::es).length+([]:List fH).length+(if([]:List fH).isEmpty then 0 else 1)<30))=true:=by rfl)
  (hline:(ap.endLine==cp.line)=true:=by rfl) (hs:starEach (e::es) X.env=(false,eval e X.env)::starEach es X.env:=by rfl) (hplain:(fD cp (starEach es X.env)).any (·.1)=false:=by rfl)
  (hsw:swapsWith (.Call (.Attribute (.Name x px) name ap) (e::es) [] cp) none pos.line X.env=pure false:=by rfl):
  PS X (.Expr (.Call (.Attribute (.Name x px) name ap) (e::es) [] cp) pos) (tS X.K H0 B0 fr RX (m0 i F fl)):=
 PS.imp (z6w (y8R PySem.F.plainAttrs_list slot hty hm hx ha hbase hfew hline hs hplain) hsw) (m0_core hL rfl)
def m1(i:Nat)(fk:DE)(F:List D->List D->Option (List D))(fl:List DE):SS->Option Out:=fun δ=>(fk (z0w δ)).bind fun dk=>match dk with
 |.int k=>(z0j fl (z0w δ)).bind fun args=>if z2d args=true then(match δ[i]? with
  |some (some (.ow (.lst ds)))=>(ixN ds.length k).bind fun j=>match ds[j]? with
   |some (.lst es)=>if z2d es=true then(F es args).bind fun es'=>if z2d es'=true then some (.nx ((z0M i δ).set i (some (.ow (.lst (ds.set j (.lst es')))))))else none else none
   |_=>none
  |_=>none)else none
 |_=>none
def st0(i:Nat)(fk fv:DE):SS->Option Out:=fun δ=>(fv (z0w δ)).bind fun d=>if d.imm=true then(fk (z0w δ)).bind fun dk=>(match dk,δ[i]? with
 |.int k,some (some (.ow (.lst ds)))=>(ixN ds.length k).map fun j=>.nx ((z0M i δ).set i (some (.ow (.lst (ds.set j d)))))
 |_,_=>none)else none
def st1(i:Nat)(fk fj fv:DE):SS->Option Out:=fun δ=>(fv (z0w δ)).bind fun d=>if d.imm=true then(fk (z0w δ)).bind fun dk=>(fj (z0w δ)).bind fun dj=>(match dk,dj,δ[i]? with
 |.int k,.int j,some (some (.ow (.lst ds)))=>(ixN ds.length k).bind fun k'=>(match ds[k']? with
  |some (.lst es)=>if z2d es=true then(ixN es.length j).map fun j'=>.nx ((z0M i δ).set i (some (.ow (.lst (ds.set k' (.lst (es.set j' d)))))))else none
  |_=>none)
 |_,_,_=>none)else none
end
theorem Trees.setI{K:aa}{H:Hp}{d:D}{y:V}(ty:Tree K H d y []):∀{ds:List D} {xs:List V} {A:List Addr} (j:Nat),Trees K H ds xs A->∃A',Trees K H (ds.set j d) (xs.set j y) A'∧A'.Sublist A
 |[],_,_,_,h=>by
  obtain⟨rfl,rfl⟩:=h
  exact⟨[],⟨rfl,rfl⟩,List.Sublist.refl _⟩
 |e::ds,_,_,0,h=>by
  unfold Trees at h
  obtain⟨x,r,A1,A2,rfl,h1,h2,rfl⟩:=h
  refine⟨A2,?_,List.sublist_append_right _ _⟩
  rw[cc,cc]
  unfold Trees
  exact⟨y,r,[],A2,rfl,ty,h2,rfl⟩
 |e::ds,_,_,k+1,h=>by
  unfold Trees at h
  obtain⟨x,r,A1,A2,rfl,h1,h2,rfl⟩:=h
  obtain⟨A',t,sb⟩:=Trees.setI ty k h2
  refine⟨A1++A',?_,List.Sublist.append_left sb _⟩
  rw[ce,ce]
  unfold Trees
  exact⟨x,_,A1,A',rfl,h1,t,rfl⟩
section
variable{X:Cx}{H0:Hp}{B0:Addr->Prop}{fr:Bool}{RX:XR}{e ke je:Expr}{pos:Pos}{x:Str}{px p2 p3:Pos}
theorem s_st0{i:Nat}{fk fv:DE}(hx:PE X (.Name x px) (y1a i))(hk:PD X ke fk)(hv:PD X e fv)
  (ha:∀v,fF (.Subscript (.Name x px) ke p2) X.env v=(do
   let ov ←holding [v] (eval (.Name x px) X.env)
   let iv ←holding [v,ov] (eval ke X.env)
   standAt p2
   holding [v,ov,iv] (setItem ov iv v)
   release [v,ov,iv] []):=by intro _;rfl)
  (hs:swapsWithSole [.Subscript (.Name x px) ke p2] e pos.line X.env=pure false:=by rfl) (hw:swappedStores [.Subscript (.Name x px) ke p2] e X.env=pure none:=by rfl)
  (h1:(fA [.Subscript (.Name x px) ke p2] X.env).map (·.2)=[fF (.Subscript (.Name x px) ke p2) X.env]:=by rfl):
  PS X (.Assign [.Subscript (.Name x px) ke p2] e pos) (tS X.K H0 B0 fr RX (st0 i fk fv)):=
 PS.imp (y9t hv (y6x hx hk z9T ha) hs hw h1) fun D σ H ⟨δ,R,o,rs,q,kk⟩=>by
  unfold st0 at q
  cases e1:fv (z0w δ)with
  |none=>rw[e1]at q;cases q
  |some d=>
  rw[e1]at q
  have q:(if d.imm=true then(fk (z0w δ)).bind fun dk=>(match dk,δ[i]? with
   |.int k,some (some (.ow (.lst ds)))=>(ixN ds.length k).map fun j=>Out.nx ((z0M i δ).set i (some (.ow (.lst (ds.set j d)))))
   |_,_=>none)else none)=some o:=q
  split at q
  case isFalse=>cases q
  case isTrue hi=>
  cases e2:fk (z0w δ)with
  |none=>rw[e2]at q;cases q
  |some dk=>
  rw[e2]at q
  simp only[aj]at q
  split at q
  case h_2=>cases q
  case h_1=>
  rename_i k ds ei
  cases ej:ixN ds.length k with
  |none=>rw[ej]at q;cases q
  |some j=>
  rw[ej]at q
  cases q
  obtain⟨a,xs,A,ev,ha',ts,eR,nd⟩:=rs.top ei
  refine⟨noB,z0w δ,d,.no,rs.all,e1,fun v H1 s1 r1=>⟨.ref a,ev,noB,z0w δ,.int k,.no,rs.all.mono s1,e2,fun v2 H2 s2 r2=>?_⟩⟩
  cases (show v2=V.int k from r2)
  refine⟨a,xs,k,j,rfl,rfl,s2 _ _ (s1 _ _ ha'),by rw[←ts.length];exact ej,?_⟩
  obtain⟨A',t',sb⟩:=Trees.setI ((r1.immTree d hi).mono s2) j (ts.mono (s1.trans s2))
  have P:=rs.put0 (s1.trans s2) ei ev eR nd t' ((aA.mp nd).2.sublist sb) fun b hb=>.inl (sb.subset hb)
  exact kk σ _ _ P.1 P.2
theorem y6L{i:Nat}{fk fj fv:DE}(hx:PE X (.Name x px) (y1a i))(hk:PD X ke fk)(hj:PD X je fj)(hv:PD X e fv)(hpi:z7V ke:=by intro _ _;rfl)
  (ha:∀v,fF (.Subscript (.Subscript (.Name x px) ke p3) je p2) X.env v=(do
   let ov ←holding [v] (eval (.Subscript (.Name x px) ke p3) X.env)
   let iv ←holding [v,ov] (eval je X.env)
   standAt p2
   holding [v,ov,iv] (setItem ov iv v)
   release [v,ov,iv] []):=by intro _;rfl)
  (hs:swapsWithSole [.Subscript (.Subscript (.Name x px) ke p3) je p2] e pos.line X.env=pure false:=by rfl) (hw:swappedStores [.Subscript (.Subscript (.Name x px) ke p3) je p2] e X.env=pure none:=by rfl)
  (h1:(fA [.Subscript (.Subscript (.Name x px) ke p3) je p2] X.env).map (·.2)=[fF (.Subscript (.Subscript (.Name x px) ke p3) je p2) X.env]:=by rfl):
  PS X (.Assign [.Subscript (.Subscript (.Name x px) ke p3) je p2] e pos) (tS X.K H0 B0 fr RX (st1 i fk fj fv)):=
 PS.imp (y9t hv (y6x (x2g ix_list hx hk hpi) hj z9T ha) hs hw h1) fun D σ H ⟨δ,R,o,rs,q,kk⟩=>by
  unfold st1 at q
  cases e1:fv (z0w δ)with
  |none=>rw[e1]at q;cases q
  |some d=>
  rw[e1]at q
  have q:(if d.imm=true then(fk (z0w δ)).bind fun dk=>(fj (z0w δ)).bind fun dj=>(match dk,dj,δ[i]? with
   |.int k,.int j,some (some (.ow (.lst ds)))=>(ixN ds.length k).bind fun k'=>(match ds[k']? with
    |some (.lst es)=>if z2d es=true then(ixN es.length j).map fun j'=>Out.nx ((z0M i δ).set i (some (.ow (.lst (ds.set k' (.lst (es.set j' d)))))))else none
    |_=>none)
   |_,_,_=>none)else none)=some o:=q
  split at q
  case isFalse=>cases q
  case isTrue hi=>
  cases e2:fk (z0w δ)with
  |none=>rw[e2]at q;cases q
  |some dk=>
  cases e3:fj (z0w δ)with
  |none=>rw[e2,e3]at q;cases q
  |some dj=>
  rw[e2,e3]at q
  simp only[aj]at q
  split at q
  case h_2=>cases q
  case h_1=>
  rename_i k j ds ei
  cases ek:ixN ds.length k with
  |none=>rw[ek]at q;cases q
  |some k'=>
  rw[ek]at q
  have q:(match ds[k']? with
    |some (.lst es)=>if z2d es=true then(ixN es.length j).map fun j'=>Out.nx ((z0M i δ).set i (some (.ow (.lst (ds.set k' (.lst (es.set j' d)))))))else none
    |_=>none)=some o:=q
  split at q
  case h_2=>cases q
  case h_1 es ed=>
  split at q
  case isFalse=>cases q
  case isTrue hes=>
  cases ej:ixN es.length j with
  |none=>rw[ej]at q;cases q
  |some j'=>
  rw[ej]at q
  cases q
  obtain⟨a,xs,b,ys,ev,ha',hxb,hb,hln,_,_⟩:=rs.put1 (.refl H) ei ed hes
  have hat:atI xs k=some (.ref b):=by
   unfold atI
   rw[←hln,ek]
   exact hxb
  refine⟨noB,z0w δ,d,.no,rs.all,e1,fun v H1 s1 r1=>⟨.ref a,ev,noB,z0w δ,.int k,.no,rs.all.mono s1,e2,fun v2 H2 s2 r2=>?_⟩⟩
  cases (show v2=V.int k from r2)
  refine⟨a,xs,k,.ref b,rfl,rfl,SqL.of (s2 _ _ (s1 _ _ ha')),hat,noB,z0w δ,.int j,.no,(rs.all.mono s1).mono s2,e3,fun v3 H3 s3 r3=>?_⟩
  cases (show v3=V.int j from r3)
  obtain⟨a',xs',b',ys',ev',ha'',hxb',hb',_,tb,up⟩:=rs.put1 ((s1.trans s2).trans s3) ei ed hes
  rw[ev]at ev';cases ev'
  rw[ha']at ha'';cases ha''
  rw[hxb]at hxb';cases hxb'
  rw[hb]at hb';cases hb'
  refine⟨b,ys,j,j',rfl,rfl,s3 _ _ (s2 _ _ (s1 _ _ hb)),by rw[←tb.length];exact ej,?_⟩
  obtain⟨A',t',sb⟩:=Trees.setI (((r1.immTree d hi).mono s2).mono s3) j' tb
  have eA:A'=[]:=List.sublist_nil.mp sb
  subst eA
  have P:=up _ _ t'
  exact kk σ _ _ P.1 P.2
end
section
variable{X:Cx}{e a:Expr}{lo hi:Option Expr}{p2 pos:Pos}
def tO(K:aa)(f:DS->Option (Option Int)):TO:=fun σ H Q=>∃B δ o,InB B H∧RepS K H B σ δ∧f δ=some o∧∀H',Same H H'->Q o H'
abbrev POD(X:Cx)(e:Option Expr)(f:DS->Option (Option Int)):Prop:=PO X e (tO X.K f)
theorem PO.imp{eo:Option Expr}{t t':TO}(h:PO X eo t)(w:∀σ H Q,t' σ H Q->t σ H Q):PO X eo t':=fun pins s σ H Q I q=>h pins s σ H Q I (w σ H Q q)
def z1a:DS->Option (Option Int):=fun _=>some none
def z2A(f:DE):DS->Option (Option Int):=fun δ=>match f δ with
 |some (.int i)=>some (some i)
 |_=>none
theorem z1n:POD X none z1a:=po_none.imp fun σ H Q ⟨B,δ,o,hB,S,q,k⟩=>by
 cases q
 exact k H (.refl H)
theorem z0Z{f:DE}(h:PD X e f):POD X (some e) (z2A f):=(po_some h).imp fun σ H Q ⟨B,δ,o,hB,S,q,k⟩=>by
 unfold z2A at q
 split at q
 ·rename_i i e1
  cases q
  exact⟨B,δ,.int i,hB,S,e1,fun v H' s r=>⟨i,r,k H' s⟩⟩
 ·cases q
def z6G(ds:List D)(lo hi:Option Int):List D:=(ds.drop (HT.sIx ds.length 0 lo)).take (HT.sIx ds.length ds.length hi - HT.sIx ds.length 0 lo)
def z7S(f:DE)(fl fh:DS->Option (Option Int)):DS->Option (List D):=fun δ=>match f δ with
 |some (.lst ds)=>(fl δ).bind fun lo=>(fh δ).map fun hi=>z6G ds lo hi
 |some (.scr ns)=>(fl δ).bind fun lo=>(fh δ).map fun hi=>z6G (ns.map .int) lo hi
 |_=>none
theorem z1f{f:DE}{fl fh:DS->Option (Option Int)}(he:PD X e f)(hl:POD X lo fl)(hh:POD X hi fh):PF X (.Subscript e (.Slice lo hi none p2) pos) (z7S f fl fh):=(x2m sl_list he hl hh).imp fun σ H Q ⟨B,δ,ds',hB,S,q,k⟩=>by
 unfold z7S at q
 have core:∀(d:D) (ds:List D),f δ=some d->((fl δ).bind fun lo=>(fh δ).map fun hi=>z6G ds lo hi)=some ds'->(∀v H1,Rep X.K H1 B d v->∃a xs,v = .ref a∧(∀H2,Same H1 H2->SqL X.K H2 a xs)∧Reps X.K H1 B ds xs) →
   tSl (rSlL X.K) (tD X.K f) (tO X.K fl) (tO X.K fh) σ H Q:=by
  intro d ds e1 q get
  cases e2:fl δ with
  |none=>rw[e2]at q;cases q
  |some l=>
  cases e3:fh δ with
  |none=>rw[e2,e3]at q;cases q
  |some u=>
  rw[e2,e3]at q
  cases q
  refine⟨B,δ,_,hB,S,e1,fun v H1 s1 r1=>⟨B,δ,l,hB.mono s1,S.mono s1,e2,fun H2 s2=>⟨B,δ,u,(hB.mono s1).mono s2,(S.mono s1).mono s2,e3,fun H3 s3=>?_⟩⟩⟩
  obtain⟨a,xs,rfl,hq,rs⟩:=get v H1 r1
  refine⟨a,xs,rfl,hq H3 (s2.trans s3),fun p hp=>?_⟩
  have sa:=z0s (o:=.lst (cutV xs l u)) hp
  refine k p _ _ (((s1.trans s2).trans s3).trans sa) ((s1.trans (s2.trans s3)).free hp) z0r ?_
  unfold z6G cutV
  rw[rs.length]
  exact((rs.drop _).take _).mono ((s2.trans s3).trans sa)
 split at q
 case h_3=>cases q
 case h_1 ds e1=>
  refine core _ ds e1 q fun v H1 r1=>?_
  unfold Rep at r1
  obtain⟨a,xs,rfl,_,hq,rs⟩:=r1
  exact⟨a,xs,rfl,fun H2 s2=>SqL.of (s2 _ _ hq),rs⟩
 case h_2 ns e1=>
  refine core _ (ns.map .int) e1 q fun v H1 r1=>?_
  unfold Rep at r1
  obtain⟨a,rfl,hq⟩:=r1
  exact⟨a,_,rfl,fun H2 s2=>(s2.sf hq).sq,z1G ns⟩
end
section
variable{X:Cx}{pos:Pos}{x:Str}{iter elt:Expr}{N':List Str}{sc:fI}{ifs:List Expr}{n:Nat}{px:Pos}{fi:DS->Option (List D)}{fc:DS->Option Bool}{fe:DE}
theorem y3u{σ:St}{H:Hp}{Q:VK}(hσ:σ.length=n)(hq:tN X.K (mkL (z1c fi fc fe)) σ H Q):y5Y (tI X.K fi) (z2w n) (tT X.K fc) (tN X.K fe) 1 σ H Q:=by
 obtain⟨δ,d0,Sδ,q,k⟩:=hq
 unfold mkL at q
 cases eds:z1c fi fc fe δ with
 |none=>rw[eds]at q;cases q
 |some ds=>
 rw[eds]at q
 cases q
 unfold z1c at eds
 cases e1:fi δ with
 |none=>rw[e1]at eds;cases eds
 |some xs=>
 rw[e1]at eds
 have q1:(if xs.length≤sizeLine then z1O (fun x=>(fc (δ++[some x])).bind fun k=>if k=true then(fe (δ++[some x])).map some else some none) xs else none)=some ds:=eds
 split at q1
 case isFalse=>cases q1
 case isTrue hsz=>
 refine⟨noB,δ,xs,.no,Sδ,e1,fun J H1 s1 itw=>fun Da hD=>?_⟩
 have hD0:H Da=none:=s1.free hD
 have it:=itw (fun a=>H1 a=none) fun a ha=>ha
 refine⟨fun i m σ' H'=>m=xs.length - i∧i≤xs.length∧(∃w,σ'=σ++[w])∧Same H1 H'∧∃ys dn rs A,H' Da=some (.lst ys)∧Trees X.K H' dn ys A∧(Da::A).Nodup∧(∀a∈A,H1 a=none)∧ds=dn++rs∧dn.length≤i ∧
  z1O (fun x=>(fc (δ++[some x])).bind fun k=>if k=true then(fe (δ++[some x])).map some else some none) (xs.drop i)=some rs,
  ⟨xs.length,by simp,bn _,⟨none,rfl⟩,z0s hD,[],[],ds,[],z0r,.nil,aA.mpr ⟨(fun z=>nomatch z),aY⟩,(fun a z=>nomatch z),rfl,ar _,q1⟩,?_⟩
 rintro i m σ' H' ⟨rfl,hi',⟨w,rfl⟩,sm,ys,dn,rs,A,hys,tys,nd,fr,hds,hln,hrs⟩
 have kp:Keep X.K (fun a=>noB a∨H1 a=none) H1 H':=.same sm
 by_cases hlt:i<xs.length
 ·refine .inr ⟨it.go i H' kp hlt,fun σ'' H''=>(i+1≤xs.length∧(∃w,σ''=σ++[w])∧Same H1 H''∧∃ys dn rs A,H'' Da=some (.lst ys)∧Trees X.K H'' dn ys A∧(Da::A).Nodup∧(∀a∈A,H1 a=none)∧ds=dn++rs∧dn.length≤i+1 ∧
   z1O (fun x=>(fc (δ++[some x])).bind fun k=>if k=true then(fe (δ++[some x])).map some else some none) (xs.drop (i+1))=some rs),fun σ'' H'' h=>⟨xs.length - (i+1),by omega,rfl,h⟩,fun xv H2 hy=>?_⟩
  obtain⟨s2,d,hd,rd⟩:=it.yld i H' xv H2 kp hy
  have hdi:=hd hlt
  have hx:xs.drop i=d::xs.drop (i+1):=by
   obtain⟨hl,e⟩:=aL.mp hdi
   rw[bb hl,e]
  rw[hx]at hrs
  obtain⟨o,rs',e2,e3,e4⟩:=z6c hrs
  show tT X.K fc ((σ++[w]).set n (some xv)) H2 _
  rw[←hσ,z6V]
  have S2:RepS X.K H2 noB (σ++[some xv]) (δ++[some d]):=(((Sδ.mono s1).mono sm).mono s2).snoc (rd.anti fun a z=>z.elim)
  have hl2:ys.length<sizeLine:=by
   have:=tys.length
   omega
  cases ec:fc (δ++[some d])with
  |none=>rw[ec]at e2;cases e2
  |some kk=>
   rw[ec]at e2
   have e2':(if kk=true then(fe (δ++[some d])).map some else some none)=some o:=e2
   refine⟨noB,δ++[some d],kk,.no,S2,ec,fun H3 s3=>?_⟩
   cases kk with
   |false=>
    rw[if_neg av]at e2'
    rw[if_neg av]
    cases e2'
    exact⟨hlt,⟨_,rfl⟩,(sm.trans s2).trans s3,ys,dn,rs',A,s3 _ _ (s2 _ _ hys),(tys.mono s2).mono s3,nd,fr,by rw[hds,e4];rfl,dP hln,e3⟩
   |true=>
    rw[if_pos rfl]at e2'
    rw[if_pos rfl]
    cases ey:fe (δ++[some d])with
    |none=>rw[ey]at e2';cases e2'
    |some y=>
     rw[ey]at e2'
     cases e2'
     refine⟨δ++[some d],y,S2.mono s3,ey,fun yv H5 A5 s5 t5 nd5 fr5=>⟨ys,s5 _ _ (s3 _ _ (s2 _ _ hys)),hl2,?_⟩⟩
     have s15:Same H' H5:=(s2.trans s3).trans s5
     have hu:H5 Da=some (.lst ys):=s15 _ _ hys
     have mu:Mut (H5 Da):=by rw[hu];exact trivial
     have hDa3:H3 Da=some (.lst ys):=s3 _ _ (s2 _ _ hys)
     have nDa:Da∉A++A5:=fun z=>by
      rcases au.mp z with z | z
      ·exact(aA.mp nd).1 z
      ·have:=fr5 Da z
       rw[hDa3]at this;cases this
     refine⟨hlt,⟨_,rfl⟩,fun b u hb=>?_,ys++[yv],dn++[y],rs',A++A5,z0r,?_,aA.mpr ⟨nDa,?_⟩,fun a ha=>?_,by rw[hds,e4,aP];rfl,by rw[aB];simp;omega,e3⟩
     ·rw[z0y (z1o hb hD)]
      exact s15 _ _ (sm _ _ hb)
     ·refine Trees.keep (Keep.upd (K:=X.K) (B:=fun x=>x=Da) rfl mu).i _ ((tys.mono s15).snoc t5) fun b hb u q=>?_
      have ne:b≠Da:=fun z=>nDa (z ▸ hb)
      rw[z0y ne];exact q
     ·refine aO.mpr ⟨(aA.mp nd).2,nd5,fun b hb c hc z=>?_⟩
      subst z
      obtain⟨u,q,_⟩:=Trees.held _ tys b hb
      have:=fr5 b hc
      rw[(s2.trans s3) _ _ q]at this;cases this
     ·rcases au.mp ha with z | z
      ·exact fr a z
      ·exact sm.free ((s2.trans s3).free (fr5 a z))
 ·have e:i=xs.length:=by omega
  subst e
  refine .inl ⟨it.stop _ H' kp (ar _),?_⟩
  rw[cC]at hrs
  cases hrs
  rw[aF]at hds
  subst hds
  refine k (.ref Da) H' (Da::A) (s1.trans sm) ?_ nd fun a ha=>?_
  ·unfold Tree
   exact⟨Da,ys,A,rfl,hys,tys,rfl⟩
  ·rcases ai.mp ha with z | z
   ·rw[z];exact hD0
   ·exact s1.free (fr a z)
theorem y2O(hc:X.calm=true)(S:CompScope X.N X.env.scope.names N' 1 sc)(hn:n=X.N.length)(hi:PID X (.Name x px) iter fi)
  (hg:∀s H fp pins E,PG (z0A X N' sc s H fp pins E) (.Name x px) (z2w n)) (ht:∀s H fp pins E,y6e (z0A X N' sc s H fp pins E) ifs (tT X.K fc)) (he:∀s H fp pins E,PE (z0A X N' sc s H fp pins E) elt (tN X.K fe))
  (hs:∀x,foldedSetIterable iter X.env x=pure x:=by intro _;rfl):PN X (.ListComp elt [⟨.Name x px,iter,ifs,0⟩] sc pos) (mkL (z1c fi fc fe)):=by
 intro pins s σ H Q I hq
 exact y3m hc S hi ⟨hg,ht,he⟩ hs pins s σ H Q I (y3u (by rw[hn,I.len]) hq)
theorem x3m{i:Nat}{y:Str}{py spos:Pos}(hN:X.N.Nodup)(hy:X.N[i]? = some y)(hyl:X.env.scope.names.lookup y=some .local)(hc:X.calm=true)(S:CompScope X.N X.env.scope.names N' 1 sc)(hn:n=X.N.length)(hi:PID X (.Name x px) iter fi)
  (hg:∀s H fp pins E,PG (z0A X N' sc s H fp pins E) (.Name x px) (z2w n)) (ht:∀s H fp pins E,y6e (z0A X N' sc s H fp pins E) ifs (tT X.K fc)) (he:∀s H fp pins E,PE (z0A X N' sc s H fp pins E) elt (tN X.K fe))
  (hsw:swapsWith (.ListComp elt [⟨.Name x px,iter,ifs,0⟩] sc pos) (some (.Name y py)) spos.line X.env=pure true:=by rfl) (hs:∀x,foldedSetIterable iter X.env x=pure x:=by intro _;rfl):
  PS X (.Assign [.Name y py] (.ListComp elt [⟨.Name x px,iter,ifs,0⟩] sc pos) spos) (tAsg (tN X.K (mkL (z1c fi fc fe))) (z2w i)):=by
 intro pins s σ H D I hq
 exact y7g hc S hN hy hyl hi ⟨hg,ht,he⟩ hsw hs pins s σ H D I (y3u (by rw[hn,I.len]) hq)
end
section
variable{X:Cx}{a b:Expr}{pos:Pos}{f g:DE}
def y6A:D->D->Option D:=iop fun i j=>some (.int (i+j))
def x3M:D->D->Option D:=iop fun i j=>if CMul i j then some (.int (i*j))else none
def z8h:D->D->Option D:=iop fun i j=>if CDiv i j then some (.int (i / j))else none
def z3U:D->D->Option D:=iop fun i j=>if 0<j then some (.int (i % j))else none
def ltI:D->D->Option D:=iop fun i j=>some (.bl (decide (i<j)))
def leI:D->D->Option D:=iop fun i j=>some (.bl (decide (i≤j)))
def gtI:D->D->Option D:=iop fun i j=>some (.bl (decide (j<i)))
theorem z5L(ha:PD X a f)(hb:PD X b g):PD X (.BinOp a .Add b pos) (d2 y6A f g):=x1g op_add o2_int0 ha hb
theorem y8V(ha:PD X a f)(hb:PD X b g):PD X (.BinOp a .Mult b pos) (d2 x3M f g):=x1g op_mul y9R ha hb
theorem z4Y(ha:PD X a f)(hb:PD X b g):PD X (.BinOp a .FloorDiv b pos) (d2 z8h f g):=x1g op_fdiv y9R ha hb
theorem z1P(ha:PD X a f)(hb:PD X b g):PD X (.BinOp a .Mod b pos) (d2 z3U f g):=x1g op_mod y9R ha hb
theorem y5V(hu:X.A.units+64<fK)(ha:PD X a f)(hb:PD X b g):PD X (.Compare a [.Eq] [b] pos) (d2 eqD f g):=pd_cmp (x3o hu) o2_eq ha hb (y1T _)
theorem pt_lt(ha:PD X a f)(hb:PD X b g):PTD X (.Compare a [.Lt] [b] pos) (z0D (d2 ltI f g)):=z6g op_lt z7a ha hb (y1T _)
theorem x1h(ha:PD X a f)(hb:PD X b g):PTD X (.Compare a [.Gt] [b] pos) (z0D (d2 gtI f g)):=z6g op_gt z7a ha hb (y1T _)
theorem z3C(hu:X.A.units+64<fK)(ha:PD X a f)(hb:PD X b g):PTD X (.Compare a [.Eq] [b] pos) (z0D (d2 eqD f g)):=z6g (x3o hu) o2_eq ha hb (y1T _)
theorem y0k(hu:X.A.units+64<fK)(ha:PD X a f)(hb:PD X b g):PTD X (.Compare a [.NotEq] [b] pos) (z0D (d2 neD f g)):=z6g (op_neD hu) o2_ne ha hb (y1T _)
theorem pt_in(hu:X.A.units+64<fK)(ha:PD X a f)(hb:PD X b g)(hm:fB .In b=false:=by rfl):PTD X (.Compare a [.In] [b] pos) (z0D (d2 inD f g)):=z6g (op_inD hu) o2_in ha hb hm
theorem y1s(hu:X.A.units+64<fK)(ha:PD X a f)(hb:PD X b g)(hm:fB .NotIn b=false:=by rfl):PTD X (.Compare a [.NotIn] [b] pos) (z0D (d2 y6g f g)):=z6g (op_ninD hu) o2_nin ha hb hm
end
def y3f(H:Hp)(A:List Addr):Hp:=fun a=>if a∈A then none else H a
theorem y3w{H:Hp}{A:List Addr}{a:Addr}(h:a∈A):y3f H A a=none:=if_pos h
theorem z7s{H:Hp}{A:List Addr}{a:Addr}(h:a∉A):y3f H A a=H a:=if_neg h
theorem y5w{H:Hp}{A:List Addr}:Same (y3f H A) H:=fun a o e=>by
 by_cases h:a∈A
 ·rw[y3w h]at e;cases e
 ·rw[z7s h]at e;exact e
section
end
section
end
def spLaw(K:aa)(F:List D->Option D):Sp:=fun vs H Q _=>∃(a:Addr) (ns:List Int),vs=[.ref a]∧SqF K H a (ns.map V.int)∧F [.scr ns]=some (.bl true)∧∀H',Q (.bl true) H'
theorem x1a{K:aa}{H:Hp}{a:Addr}{xs:List V}(hO:Only H)(h:SqL K H a xs):SqF K H a xs:=by
 rcases h with (h | h) | h
 ·rcases hO a with z | ⟨o,ys,z⟩ <;> (rw[h]at z;cases z)
 ·exact .inl h
 ·exact .inr h
section
end
open PySem.MeetsSeq PySem.MeetsSeq2 PySem.MeetsSeq3 PySem.SeqRoads2 PySem.SeqAt
open PySem.AutoSeq1 (wpAny_loadPart')
section
variable{X:Cx}
theorem Inv.tupleO{pins:AO}{σ:St}{H:Hp}{s:dw}{a:Addr}{xs:List V}(I:Inv X pins σ H s)(h:SqT X.K H a xs):∃(its:List Value) (ob:Obj) (n:Nat),Vals xs its∧s.heap.get? a=some ob∧ob.cls = .type "tuple" ∧ ob.dict=none∧ob.data = .seq its.toArray n∧xs.length≤sizeLine:=by
 rcases h with h | ⟨o,its,n,hk,hc,hs,hz,r⟩
 ·obtain⟨z,its,r,ob,e,c,n,hd⟩:=h.ok I.hok
  exact⟨its,ob,n,r,e,c.1,c.2,hd,z⟩
 ·refine⟨its.toList,o,n,r,I.kIn a o hk,hc.1,hc.2,by simpa using hs,?_⟩
  have e:=r.length
  simp only[bL]at e
  omega
variable{e:Expr}{t:TA}{r:V->List V->Hp->VK->Prop}
theorem x0G:∀{ns:List Int} {its:List Value},Vals (ns.map V.int) its->∀(k:Nat) (h:k<its.length),∃t,∃h2:k<ns.length,its[k] = .int ns[k] t
 |[],_,.nil,_,h=>by simp at h
 |n::ns,_,.cons r t,k,h=>by
  obtain⟨u,rfl⟩:=r
  cases k with
  |zero=>exact⟨u,by simp,rfl⟩
  |succ k=>
   obtain⟨w,h2,e⟩:=x0G t k (by simpa using h)
   exact⟨w,by simpa using h2,by simpa using e⟩
def isI(i:Int):Value->Bool
 |.int k _=>k==i
 |_=>false
theorem z7k:∀{ds:List D} {ns:List Int},z2O ds=some ns->ds=ns.map D.int
 |[],ns,h=>by cases h;rfl
 |.int i::r,ns,h=>by
  unfold z2O at h
  cases e:z2O r with
  |none=>rw[e]at h;cases h
  |some ms=>rw[e]at h;cases h;rw[aH,z7k e]
 |.non::_,_,h=>by cases h
 |.bl _::_,_,h=>by cases h
 |.str _::_,_,h=>by cases h
 |.lst _::_,_,h=>by cases h
 |.tup _::_,_,h=>by cases h
 |.scr _::_,_,h=>by cases h
 |.dct _ _::_,_,h=>by cases h
 |.exc _::_,_,h=>by cases h
 |.obj _ _ _ _::_,_,h=>by cases h
 |.cel _ _::_,_,h=>by cases h
theorem z7c{K:aa}{H:Hp}{B:Addr->Prop}:∀{ns:List Int} {xs:List V},Reps K H B (ns.map D.int) xs->xs=ns.map V.int
 |[],_,h=>by unfold Reps at h;exact h
 |n::ns,_,h=>by
  rw[aH]at h
  unfold Reps at h
  obtain⟨x,r,rfl,h1,h2⟩:=h
  unfold Rep at h1
  rw[h1,z7c h2]
  rfl
end
open PySem.AutoSeq1 (wpAny_loadPart')
section
end
def tRngV1(ta:TA):TE:=fun σ H Q=>ta σ H fun vs H1=>∃j:Int,vs=[.int j]∧∀p,H1 p=none->Q (.ref p) (upd H1 p (.rng 0 j))
section
variable{X:Cx}
theorem y9W{a:Expr}{ta:TA}{p pos:Pos}(hg:Gl X "range")(hm:X.mg "range" = none)(ha:PA X [a] ta)(hs:starEach [a] X.env=[(false,eval a X.env)]:=by rfl):PE X (.Call (.Name "range" p) [a] [] pos) (tRngV1 ta):=by
 intro pins s σ H Q I h
 refine wpAny_Call_Name_kw (z3Y I hg hm boot_range (PyProof.Rows.callWith_type1 (thn (ha pos pins s σ H _ I h) fun us s1 ⟨vs,H1,I1,r1,q1⟩=>?_) hs rfl))
 obtain⟨j,e,q⟩:=q1
 subst e
 cases r1 with
 |cons r rr=>
  cases rr
  obtain⟨t,rfl⟩:=r
  refine call_range_1 ⟨.ref s1.heap.objs.size,_,I1.laid (fun b o e=>Heap.get?_push_of_some _ e) (ar _) ?_,rfl,q _ (I1.hok.fresh (ar _))⟩
  exact⟨_,_,_,Heap.get?_push_size _ rfl⟩
def x3S(lo:Int)(n:Nat):List V:=(ah n).map fun i=>.int (lo+(i:Nat))
theorem y5a{lo:Int}:∀{n:Nat} {acc:Array Value},ItemsOf (fun i v=>∃t,v=Value.int (lo+i*1) t) acc n->Vals (x3S lo n) acc.toList:=by
 intro n acc h
 obtain⟨hs,hv⟩:=h
 have key:∀(vs:List Value) (k:Nat),(∀j v,vs[j]? = some v->∃t,v=Value.int (lo+((k+j:Nat):Int)) t)->Vals ((dc k vs.length).map fun i=>V.int (lo+(i:Nat))) vs:=by
  intro vs
  induction vs with
  |nil=>intro k _;exact .nil
  |cons x r ih=>
   intro k hx
   rw[bc,List.range'_succ,aH]
   obtain⟨t,e⟩:=hx 0 x rfl
   refine .cons ⟨t,by simpa using e⟩ (ih (k+1) fun j v hj=>?_)
   obtain⟨t,e⟩:=hx (j+1) v (by simpa using hj)
   exact⟨t,by rw[e];congr 1 <;> omega⟩
 have:=key acc.toList 0 fun j v hj=>by
  obtain⟨t,e⟩:=hv j v (by simpa using hj)
  exact⟨t,by rw[e];congr 1 <;> omega⟩
 rw[←eZ,bL,hs]at this
 exact this
theorem x1v{lo:Int}{n:Nat}:(x3S lo n).length=n:=by simp[x3S]
theorem y5O(hc:X.calm=true):z5r X (.type "list") (fun xs H Q=>∃(p:Addr) (lo hi:Int),xs=[.ref p]∧H p=some (.rng lo hi)∧(-(2 ^ 62)≤lo∧lo<2 ^ 62∧-(2 ^ 62)≤hi∧hi<2 ^ 62)∧(hi - lo).toNat≤sizeLine∧∀l,H l=none->Q (.ref l) (upd H l (.lst (x3S lo (hi - lo).toNat)))):=by
 intro pins s σ H xs us Q I r h
 obtain⟨p,lo,hi,rfl,hp,hb,hl,q⟩:=h
 obtain⟨u,rfl,rx⟩:=y0a r
 cases rx
 obtain⟨t,u,v,e⟩:=I.hok p _ hp
 refine call_list_range (I.ok.hd hc) e (small_one hb.1 hb.2.1 hb.2.2.1 hb.2.2.2) (n:=(hi - lo).toNat) (by rw[rangeSize_one];split <;> omega) (by rw[sizeLine_eq]at hl;omega) fun h' tk acc' c' kp e2 it=>?_
 have I2:Inv X pins σ (upd H s.heap.objs.size (.lst (x3S lo (hi - lo).toNat))) { s with heap:=h',toks:=tk }:=
  I.laid kp (ar _) (show ObjOk X.prog X.w _ h' _ (.lst (x3S lo (hi - lo).toNat)) from⟨by rw[x1v];exact hl,acc'.toList,c',y5a it,by simpa using e2⟩)
 exact⟨.ref s.heap.objs.size,_,I2,rfl,q _ (I.hok.fresh (ar _))⟩
def z8E(g:DS->Option (List D)):DS->Option (List D):=fun δ=>(g δ).bind fun ds=>if ds.length≤sizeLine then some ds else none
theorem x2l{K:aa}{H:Hp}{B:Addr->Prop}{lo:Int}{n:Nat}:Reps K H B (z5y lo n) (x3S lo n):=by
 unfold z5y x3S
 generalize ah n=l
 induction l with
 |nil=>exact .nil
 |cons k r ih=>exact .cons (by unfold Rep;rfl) ih
theorem y7t{f:DE}{δ:DS}{ds:List D}(h:z1j f δ=some ds):∃j:Int,f δ=some (.int j)∧-(2 ^ 62)≤j∧j<2 ^ 62∧ds=z5y 0 j.toNat:=by
 unfold z1j at h
 split at h
 ·rename_i j e
  split at h
  ·rename_i hb
   cases h
   exact⟨j,e,hb.1,hb.2,rfl⟩
  ·cases h
 ·cases h
theorem y5l{g:DS->Option (List D)}{δ:DS}{ds:List D}(h:z8E g δ=some ds):g δ=some ds∧ds.length≤sizeLine:=by
 unfold z8E at h
 cases e:g δ with
 |none=>rw[e]at h;cases h
 |some es=>
  rw[e]at h
  have h:(if es.length≤sizeLine then some es else none)=some ds:=h
  split at h
  ·cases h;exact⟨rfl,by assumption⟩
  ·cases h
theorem x0L{lo:Int}{n:Nat}:(z5y lo n).length=n:=by simp[z5y]
variable{a:Expr}{f:DE}{p p2 pos pos2:Pos}
theorem y7c(hc:X.calm=true)(hg:Gl X "list")(hm:X.mg "list" = none)(hg2:Gl X "range")(hm2:X.mg "range" = none)(h:PD X a f)(he2:starEach [a] X.env=[(false,eval a X.env)]:=by rfl)
  (he:starEach [.Call (.Name "range" p2) [a] [] pos2] X.env=[(false,eval (.Call (.Name "range" p2) [a] [] pos2) X.env)]:=by rfl):PF X (.Call (.Name "list" p) [.Call (.Name "range" p2) [a] [] pos2] [] pos) (z8E (z1j f)):=
 (z7T (y5O hc) hg hm PyProof.Rows.Boot.«list» (z1e (y9W hg2 hm2 (z1e h pa_nil he2) he2) pa_nil he) nofun nofun he rfl).imp fun σ H Q ⟨B,δ,ds,hB,S,e1,k⟩=>by
  obtain⟨e2,hl⟩:=y5l e1
  obtain⟨j,e3,h1,h2,rfl⟩:=y7t e2
  rw[x0L]at hl
  refine⟨B,δ,_,hB,S,e3,fun v H1 s1 r1=>?_⟩
  unfold Rep at r1
  subst r1
  refine⟨j,rfl,fun r hr=>⟨r,0,j,rfl,z0r,⟨by omega,by omega,h1,h2⟩,by simpa using hl,fun l hl'=>?_⟩⟩
  refine k l _ _ ((s1.trans (z0s hr)).trans (z0s hl')) (s1.free ((z0s (H:=H1) hr).free hl')) z0r ?_
  rw[Int.sub_zero]
  exact x2l
def y4Z:List D->Option D
 |[.int i]=>some (.int i)
 |[.bl k]=>some (.int (if k then 1 else 0))
 |_=>none
theorem oa_int{K:aa}:OpA K (fun xs H Q=>(∃i,xs=[.int i]∧Q (.int i) H)∨∃k,xs=[.bl k]∧Q (.int (if k then 1 else 0)) H) y4Z:=by
 intro H B ds d vs Q hB hr q k
 unfold y4Z at q
 split at q
 ·cases q
  obtain⟨v,rfl,r⟩:=z5k hr
  unfold Rep at r
  subst r
  exact .inl ⟨_,rfl,k _ H (.refl H) (by unfold Rep;rfl)⟩
 ·cases q
  obtain⟨v,rfl,r⟩:=z5k hr
  unfold Rep at r
  subst r
  exact .inr ⟨_,rfl,k _ H (.refl H) (by unfold Rep;rfl)⟩
 ·cases q
theorem z9Q{e:Expr}(hg:Gl X "int")(hm:X.mg "int" = none)(h:PD X e f)(he:starEach [e] X.env=[(false,eval e X.env)]:=by rfl):PD X (.Call (.Name "int" p) [e] [] pos) (z0k y4Z [f]):=
 x1r y7W oa_int hg hm PyProof.Rows.Boot.«int» (z0a h z0d he) nofun nofun he rfl
end
section
variable{X:Cx}{pins:AO}{σ:St}{H:Hp}{s:dw}{h':Heap}
theorem Inv.turnedL{t':Nat}{fp:List Addr}(I:Inv X pins σ H s)(k:∀b o,b∉fp->s.heap.get? b=some o->h'.get? b=some o)(hf:∀b∈fp,y0B X pins H b):Inv X pins σ H { s with heap:=h',toks:=t' }:=by
 have nit:∀b u,H b=some u->b∉fp:=fun b u e z=>by rw[(hf b z).1]at e;cases e
 have nL:X.env.locals∉fp:=fun z=>(hf _ z).2.1 rfl
 refine I.step (g':=s.gens) (d':=s.drawn) (ch:=fp) (fun b hb=>?_) (fun b o _ _ hc e _=>k b o hc e) (fun b o _ _ hc e _=>⟨o.slots,k b o hc e⟩) (fun _ _ _ _ n=>n)
  (fun b o hc e=>⟨o,k b o hc e⟩) (fun _ _ e=>e) (fun _ _ _ e=>e) (fun b ps e=>⟨#[],by rw[e];simp⟩) (fun m hm=>?_) (fun b u e=>?_) I.bare
 ·obtain⟨f0,f1,f2,f3,f4,f5⟩:=hf b hb
  exact⟨f3,f1,f4,f5⟩
 ·obtain⟨o,es,ep,ho,r⟩:=hm
  exact⟨o,es,ep,k _ o nL ho,r⟩
 ·refine(I.hok b u e).stay (fun c v hc q=>k c v ?_ q) (fun _ q=>q) fun _ _ q=>q
  rcases hc with z | z
  ·rw[z];exact nit b u e
  ·exact nit c _ z
def Ite(K:aa)(a:Addr):It:=
 ⟨fun i H=>∃xs x,SqL K H a xs∧xs[i]? = some x,fun i H v H'=>∃p x,H p=none∧v = .ref p∧H'=upd H p (.tup [.int (i:Nat),x])∧∀xs,SqL K H a xs->xs[i]? = some x,fun i H=>∃xs,SqL K H a xs∧xs.length≤i⟩
theorem y7D{P:fw}{w:fx}{K:aa}{elts:List Expr}{x1}{tp:Pos}(a e it:Addr)(hne:e≠it):
  Turn P w K (.Tuple elts x1 tp) (Ite K a) [e,it] e (fun i h=>(∃old,IsEnum h e it ((i:Nat):Int) old)∧h.IsListIter it a i) where
 mem:=by simp
 obj:=fun i h st b hb=>by
  obtain⟨⟨old,he⟩,o,eo,c,d⟩:=st
  rcases ai.mp hb with z | z
  ·subst z
   exact⟨_,he,fun v z=>by cases z⟩
  ·have z:b=it:=by simpa using z
   subst z
   exact⟨o,eo,fun v z=>by rw[d]at z;cases z⟩
 keep:=fun i h h' st k=>by
  obtain⟨⟨old,he⟩,hi⟩:=st
  exact⟨⟨old,k e (by simp) _ he⟩,hi.at fun o q=>k it (by simp) o q⟩
 item:=by
  intro X hP hw hK hc i pins s σ H E I hf st hg
  subst hP hw hK
  obtain⟨xs,x,hq,hx⟩:=hg
  obtain⟨its,rv,p,hz⟩:=I.list hq
  obtain⟨u,hu,ru⟩:=rv.get hx
  obtain⟨⟨old,he⟩,hi⟩:=st
  refine wpAny_pyNext_enum_item he hi p.isList (x:=u) (by simpa using hu) hne fun h1 heo hi1 ht1 hz1 hk1=>⟨_,rfl,?_⟩
  refine wpAny_letOwnedTupleGo_enum heo fun h2 he2 hs2=>?_
  have hs2:Heap.SameBut e h1 h2:=hs2
  have elt:e<s.heap.objs.size:=Heap.lt_size he
  obtain⟨oi,eoi,_⟩:=id hi
  have ilt:it<s.heap.objs.size:=Heap.lt_size eoi
  have hp:H s.heap.objs.size=none:=I.hok.fresh (ar _)
  have I1:Inv X pins σ (upd H s.heap.objs.size (.tup [.int (i:Nat),x])) { s with heap:=s.heap.push { cls:=.type "tuple",data:=.seq #[.int (i:Nat) s.toks,u] },toks:=s.toks+1 }:=
   I.laid (fun b o q=>Heap.get?_push_of_some _ q) (ar _) (show ObjOk X.prog X.w _ _ _ (.tup [.int (i:Nat),x]) from⟨by show 2≤sizeLine;rw[sizeLine_eq];decide,[.int (i:Nat) s.toks,u],.cons ⟨_,rfl⟩ (.cons ru .nil),TupN.new _ _⟩)
  have hf1:∀b∈[e,it],y0B X pins (upd H s.heap.objs.size (.tup [.int (i:Nat),x])) b:=fun b hb=>by
   obtain⟨f0,f⟩:=hf b hb
   refine⟨?_,f⟩
   have:b≠s.heap.objs.size:=by
    rcases ai.mp hb with z | z
    ·rw[z];exact aE elt
    ·have z:b=it:=by simpa using z
     rw[z];exact aE ilt
   rw[z0y this]
   exact f0
  have kk:∀b o,b∉[e,it]->(s.heap.push { cls:=.type "tuple",data:=.seq #[.int (i:Nat) s.toks,u] }).get? b=some o->h2.get? b=some o:=by
   intro b o hb q
   have hbe:b≠e:=fun z=>hb (by simp[z])
   have hbi:b≠it:=fun z=>hb (by simp[z])
   rw[hs2.2 b hbe]
   by_cases hbs:b=s.heap.objs.size
   ·subst hbs
    rw[ht1]
    have:(s.heap.push { cls:=.type "tuple",data:=.seq #[.int (i:Nat) s.toks,u] }).get? s.heap.objs.size=some { cls:=.type "tuple",data:=.seq #[.int (i:Nat) s.toks,u] }:=Heap.get?_push_size _ rfl
    exact this.symm.trans q
   ·have q':s.heap.get? b=some o:=(Heap.get?_push_ne s.heap _ _ hbs).symm.trans q
    exact hk1 b o hbe hbi q'
  have I2:Inv X pins σ (upd H s.heap.objs.size (.tup [.int (i:Nat),x])) { s with heap:=h2,toks:=s.toks+1 }:=Inv.turnedL (s:={ s with heap:=s.heap.push { cls:=.type "tuple",data:=.seq #[.int (i:Nat) s.toks,u] },toks:=s.toks+1 }) (h':=h2) (t':=s.toks+1) (fp:=[e,it]) I1 kk hf1
  refine⟨.ref s.heap.objs.size,_,I2,rfl,⟨_,x,hp,rfl,rfl,fun ys hy=>by rw[I.list_inj hy hq];exact hx⟩,⟨⟨u,?_⟩,?_⟩,fun b hb=>(hf1 b hb).1⟩
  ·have:(((i+1:Nat):Int))=((i:Int)+1):=by omega
   rw[this]
   exact he2
  ·exact hi1.at fun o q=>(hs2.2 it (Ne.symm hne)).trans q
 done:=by
  intro X hP hw hK hc i pins s σ H E I hf st hg
  subst hP hw hK
  obtain⟨xs,hq,hx⟩:=hg
  obtain⟨its,rv,p,hz⟩:=I.list hq
  obtain⟨⟨old,he⟩,hi⟩:=st
  have hl:=rv.length
  exact wpAny_pyNext_enum_end (I.ok.hd hc) he hi p.isList (by simp;omega) fun h' eb=>⟨rfl,I.turnedL (t':=s.toks) (fp:=[e,it]) (fun b o hb q=>eb b o (fun z=>hb (by simp[z])) q) hf⟩
 self:=fun _ _ _ _ _ st h=>let⟨⟨_,he⟩,_⟩:=st;wpAny_pyIter_enum he h
def iEnum(K:aa)(tl:TE):TI:=fun σ H R=>tl σ H fun x H1=>∃a,[x]=[V.ref a]∧(∃xs,SqL K H1 a xs)∧R (Ite K a) H1
theorem pi_enum{elts:List Expr}{x1}{tp p pos:Pos}{l:Expr}{tl:TE}(hg:Gl X "enumerate")(hm:X.mg "enumerate" = none)(hl:PE X l tl)(hs:starEach [l] X.env=[(false,eval l X.env)]:=by rfl):
  PI X (.Tuple elts x1 tp) (.Call (.Name "enumerate" p) [l] [] pos) (iEnum X.K tl):=by
 intro pins s σ H R I h
 have hA:PA X [l] (fun σ H Q=>tl σ H fun x H1=>Q [x] H1):=(z1e hl pa_nil (by rw[hs];rfl)).imp fun σ H Q q=>q
 refine wpAny_Call_Name_kw (z3Y I hg hm boot_enumerate (PyProof.Rows.callWith_type1 (thn (hA pos pins s σ H (fun vs H1=>∃a,vs=[V.ref a]∧(∃xs,SqL X.K H1 a xs)∧R (Ite X.K a) H1) I h) fun us s1 ⟨vs,H1,I1,r1,q1⟩=>?_) hs rfl))
 obtain⟨a,rfl,⟨xs,hq⟩,q⟩:=q1
 obtain⟨u,rfl,ru⟩:=r1.one
 cases ru
 obtain⟨its,rv,pl,hz⟩:=I1.list hq
 refine call_enumerate_list pl.isList fun h1 he hi hsz kp=>?_
 refine wpAny_pyIter_enum he ?_
 have I2:Inv X pins σ H1 { s1 with heap:=h1 }:=I1.kept (t':=s1.toks) kp
 refine⟨s1.heap.objs.size+1,[s1.heap.objs.size+1,s1.heap.objs.size],_,_,H1,rfl,I2,y7D a _ _ (Nat.succ_ne_self _),⟨⟨_,he⟩,hi⟩,fun b hb=>?_,q⟩
 have hb':s1.heap.objs.size≤b:=by
  rcases ai.mp hb with z | z
  ·rw[z];exact ff _
  ·have z:b=s1.heap.objs.size:=by simpa using z
   rw[z];exact ar _
 exact I1.fpOk hb' (I1.hok.fresh hb')
end
def z0B(k:Nat):List D->List D
 |[]=>[]
 |d::r=>.tup [.int (k:Nat),d]::z0B (k+1) r
theorem y3U:∀{ds:List D} {k i:Nat},(z0B k ds)[i]? = (ds[i]?).map fun d=>.tup [.int ((k+i:Nat):Int),d]
 |[],_,_=>by simp[z0B]
 |d::r,k,0=>by simp[z0B]
 |d::r,k,i+1=>by
  show(z0B (k+1) r)[i]? = (r[i]?).map _
  rw[y3U]
  congr 1
  funext d
  congr 3
  omega
theorem z9X:∀{ds:List D} {k:Nat},(z0B k ds).length=ds.length
 |[],_=>rfl
 |d::r,k=>by show(z0B (k+1) r).length+1=r.length+1;rw[z9X]
theorem y4O{K:aa}{H:Hp}{B:Addr->Prop}{a:Addr}{xs:List V}{ds:List D}(hs:∀H',Keep K B H H'->SqL K H' a xs)(r:Reps K H B ds xs):ItD K (Ite K a) H B (z0B 0 ds):=by
 have hl:=r.length
 refine⟨fun i H' kp hi=>?_,fun i H' kp hi=>?_,fun i H' v H2 kp hy=>?_⟩
 ·rw[z9X,hl]at hi
  exact⟨xs,xs[i],hs H' kp,am hi⟩
 ·rw[z9X,hl]at hi
  exact⟨xs,hs H' kp,hi⟩
 ·obtain⟨p,x,hp,rfl,rfl,hx⟩:=hy
  have hx:=hx xs (hs H' kp)
  obtain⟨d,e,rd⟩:=(Reps.keep kp ds r).get' hx
  refine⟨z0s hp,.tup [.int (i:Nat),d],fun _=>by rw[y3U,e];simp,?_⟩
  unfold Rep
  exact⟨p,_,rfl,SqT.of z0r,.cons (by unfold Rep;rfl) (.one (rd.mono (z0s hp)))⟩
def y2R:D->Option (List D)
 |.lst ds=>some (z0B 0 ds)
 |.scr ns=>some (z0B 0 (ns.map .int))
 |_=>none
def y2W(f:DE):DS->Option (List D):=fun δ=>(f δ).bind y2R
section
variable{X:Cx}
theorem z7e{elts:List Expr}{x1}{tp p pos:Pos}{l:Expr}{f:DE}(hg:Gl X "enumerate")(hm:X.mg "enumerate" = none)(h:PD X l f)(hs:starEach [l] X.env=[(false,eval l X.env)]:=by rfl):
  PID X (.Tuple elts x1 tp) (.Call (.Name "enumerate" p) [l] [] pos) (y2W f):=(pi_enum hg hm h hs).imp fun σ H R ⟨B,δ,ds,hB,S,q,k⟩=>by
 unfold y2W at q
 cases e:f δ with
 |none=>rw[e]at q;cases q
 |some d=>
  rw[e]at q
  have q':y2R d=some ds:=q
  refine⟨B,δ,d,hB,S,e,fun v H1 s1 r1=>?_⟩
  unfold y2R at q'
  split at q'
  ·cases q'
   unfold Rep at r1
   obtain⟨a,xs,rfl,n,h,r⟩:=r1
   refine⟨a,rfl,⟨xs,SqL.of h⟩,k _ H1 s1 fun C hC=>?_⟩
   have na:¬ (B a∨C a):=fun z=>z.elim n fun z=>by rw[hC a z]at h;cases h
   exact y4O (xs:=xs) (fun H' kp=>SqL.of (kp.sl a xs na h)) (Reps.wide hC _ r)
  ·cases q'
   unfold Rep at r1
   obtain⟨a,rfl,h⟩:=r1
   exact⟨a,rfl,⟨_,h.sq⟩,k _ H1 s1 fun C hC=>y4O (fun H' kp=>(kp.sf a _ h).sq) (z1G _)⟩
  ·cases q'
def two(h:D->D->Option (Option D)):D->Option (Option D)
 |.tup [a,b]=>h a b
 |_=>none
def z4v(fc:DS->Option Bool)(fe:DE)(δ:DS):D->D->Option (Option D):=fun a b=>(fc (δ++[some a,some b])).bind fun k=>if k=true then(fe (δ++[some a,some b])).map some else some none
def z6E(fi:DS->Option (List D))(fc:DS->Option Bool)(fe:DE):DS->Option (List D):=fun δ=>(fi δ).bind fun xs=>if xs.length≤sizeLine then z1O (two (z4v fc fe δ)) xs else none
theorem x2e{h:D->D->Option (Option D)}{d:D}{o:Option D}(e:two h d=some o):∃a b,d = .tup [a,b]∧h a b=some o:=by
 unfold two at e
 split at e
 ·exact⟨_,_,rfl,e⟩
 ·cases e
theorem y1W{v1 v2 w1 w2:Option V}:∀{σ:St},((σ++[w1,w2]).set σ.length v1).set (σ.length+1) v2=σ++[v1,v2]
 |[]=>rfl
 |x::r=>congrArg (x :: ·) (y1W (σ:=r))
theorem RepS.snoc2{K:aa}{H:Hp}{B:Addr->Prop}{σ:St}{δ:DS}{d e:D}{v w:V}(S:RepS K H B σ δ)(r:Rep K H B d v)(r':Rep K H B e w):RepS K H B (σ++[some v,some w]) (δ++[some d,some e]):=by
 have:=(S.snoc r).snoc r'
 rw[aP,aP]at this
 exact this
variable{N':List Str}{sc:fI}{iter elt:Expr}{ifs:List Expr}{n:Nat}{x y:Str}{px py tp pos:Pos}{x1:Nat}{fi:DS->Option (List D)}{fc:DS->Option Bool}{fe:DE}
def gTwo(K:aa)(n:Nat):TG:=gTup K 2 (y6y (z2w n) (y6y (z2w (n+1)) gNil))
theorem y7s{σ:St}{H:Hp}{Q:VK}(hσ:σ.length=n)(hq:tF X.K (z6E fi fc fe) σ H Q):y5Y (tI X.K fi) (gTwo X.K n) (tT X.K fc) (tD X.K fe) 2 σ H Q:=by
 obtain⟨B,δ,ds,hB,Sδ,q,k⟩:=hq
 unfold z6E at q
 cases e1:fi δ with
 |none=>rw[e1]at q;cases q
 |some xs=>
 rw[e1]at q
 have q1:(if xs.length≤sizeLine then z1O (two (z4v fc fe δ)) xs else none)=some ds:=q
 split at q1
 case isFalse=>cases q1
 case isTrue hsz=>
 refine⟨B,δ,xs,hB,Sδ,e1,fun J H1 s1 itw=>fun Da hD=>?_⟩
 have hD0:H Da=none:=s1.free hD
 have it:=itw (fun a=>a=Da) fun a ha=>by rw[ha];exact hD
 have Sw:RepS X.K H1 (fun a=>B a∨a=Da) σ δ:=(Sδ.mono s1).wide fun a ha=>by rw[ha];exact hD
 refine⟨fun i m σ' H'=>m=xs.length - i∧i≤xs.length∧(∃w w',σ'=σ++[w,w'])∧Same H1 H'∧∃ys dn rs,H' Da=some (.lst ys)∧Reps X.K H' (fun a=>B a∨a=Da) dn ys∧ds=dn++rs∧dn.length≤i ∧
  z1O (two (z4v fc fe δ)) (xs.drop i)=some rs,
  ⟨xs.length,by simp,bn _,⟨none,none,rfl⟩,z0s hD,[],[],ds,z0r,.nil,rfl,ar _,q1⟩,?_⟩
 rintro i m σ' H' ⟨rfl,hi',⟨w,w',rfl⟩,sm,ys,dn,rs,hys,rys,hds,hln,hrs⟩
 have kp:Keep X.K (fun a=>B a∨a=Da) H1 H':=.same sm
 by_cases hlt:i<xs.length
 ·refine .inr ⟨it.go i H' kp hlt,fun σ'' H''=>(i+1≤xs.length∧(∃w w',σ''=σ++[w,w'])∧Same H1 H''∧∃ys dn rs,H'' Da=some (.lst ys)∧Reps X.K H'' (fun a=>B a∨a=Da) dn ys∧ds=dn++rs∧dn.length≤i+1 ∧
   z1O (two (z4v fc fe δ)) (xs.drop (i+1))=some rs),fun σ'' H'' h=>⟨xs.length - (i+1),by omega,rfl,h⟩,fun xv H2 hy=>?_⟩
  obtain⟨s2,d,hd,rd⟩:=it.yld i H' xv H2 kp hy
  have hdi:=hd hlt
  have hx:xs.drop i=d::xs.drop (i+1):=by
   obtain⟨hl,e⟩:=aL.mp hdi
   rw[bb hl,e]
  rw[hx]at hrs
  obtain⟨o,rs',e2,e3,e4⟩:=z6c hrs
  obtain⟨da,db,ed,e2b⟩:=x2e e2
  subst ed
  unfold Rep at rd
  obtain⟨p,vs,rfl,hsq,rvs⟩:=rd
  unfold Reps at rvs
  obtain⟨va,r1,rfl,ra,rvs⟩:=rvs
  unfold Reps at rvs
  obtain⟨vb,r2,rfl,rb,rvs⟩:=rvs
  unfold Reps at rvs
  subst rvs
  refine⟨p,[va,vb],rfl,hsq,rfl,va,[vb],rfl,vb,[],rfl,rfl,?_⟩
  rw[←hσ,y1W]
  have hB1:InB (fun a=>B a∨a=Da) H2:=fun a ha=>ha.elim (fun z=>(((hB.mono s1).mono sm).mono s2) a z) fun z=>⟨_,s2 _ _ (z ▸ hys)⟩
  have S2:RepS X.K H2 (fun a=>B a∨a=Da) (σ++[some va,some vb]) (δ++[some da,some db]):=((Sw.mono sm).mono s2).snoc2 ra rb
  have hl2:ys.length<sizeLine:=by
   have:=rys.length
   omega
  unfold z4v at e2b
  cases ec:fc (δ++[some da,some db])with
  |none=>rw[ec]at e2b;cases e2b
  |some kk=>
   rw[ec]at e2b
   have e2':(if kk=true then(fe (δ++[some da,some db])).map some else some none)=some o:=e2b
   refine⟨_,δ++[some da,some db],kk,hB1,S2,ec,fun H3 s3=>?_⟩
   cases kk with
   |false=>
    rw[if_neg av]at e2'
    rw[if_neg av]
    cases e2'
    exact⟨hlt,⟨_,_,rfl⟩,(sm.trans s2).trans s3,ys,dn,rs',s3 _ _ (s2 _ _ hys),(rys.mono s2).mono s3,by rw[hds,e4];rfl,dP hln,e3⟩
   |true=>
    rw[if_pos rfl]at e2'
    rw[if_pos rfl]
    cases ey:fe (δ++[some da,some db])with
    |none=>rw[ey]at e2';cases e2'
    |some y=>
     rw[ey]at e2'
     cases e2'
     refine⟨_,δ++[some da,some db],y,hB1.mono s3,S2.mono s3,ey,fun yv H5 s5 r5=>⟨ys,s5 _ _ (s3 _ _ (s2 _ _ hys)),hl2,?_⟩⟩
     have hu:H5 Da=some (.lst ys):=s5 _ _ (s3 _ _ (s2 _ _ hys))
     refine⟨hlt,⟨_,_,rfl⟩,fun b u hb=>?_,ys++[yv],dn++[y],rs',z0r,?_,by rw[hds,e4,aP];rfl,by rw[aB];simp;omega,e3⟩
     ·rw[z0y (z1o hb hD)]
      exact s5 _ _ (s3 _ _ (s2 _ _ (sm _ _ hb)))
     ·exact Reps.keep (.upd (.inr rfl) (by rw[hu];exact trivial)) _ (((rys.mono s2).mono s3 |>.mono s5).snoc r5)
 ·have e:i=xs.length:=by omega
  subst e
  refine .inl ⟨it.stop _ H' kp (ar _),?_⟩
  rw[cC]at hrs
  cases hrs
  rw[aF]at hds
  subst hds
  exact k Da ys H' (s1.trans sm) hD0 hys (rys.anti fun a z=>.inl z)
theorem z9q(hc:X.calm=true)(S:CompScope X.N X.env.scope.names N' 2 sc)(hn:n=X.N.length)(hi:PID X (.Tuple [.Name x px,.Name y py] x1 tp) iter fi)
  (hg:∀s H fp pins E,PG (z0A X N' sc s H fp pins E) (.Tuple [.Name x px,.Name y py] x1 tp) (gTwo X.K n)) (ht:∀s H fp pins E,y6e (z0A X N' sc s H fp pins E) ifs (tT X.K fc)) (he:∀s H fp pins E,PE (z0A X N' sc s H fp pins E) elt (tD X.K fe))
  (hs:∀x,foldedSetIterable iter X.env x=pure x:=by intro _;rfl):PF X (.ListComp elt [⟨.Tuple [.Name x px,.Name y py] x1 tp,iter,ifs,0⟩] sc pos) (z6E fi fc fe):=by
 intro pins s σ H Q I hq
 exact y3m hc S hi ⟨hg,ht,he⟩ hs pins s σ H Q I (y7s (by rw[hn,I.len]) hq)
theorem y7k{X:Cx}{n:Nat}{x y:Str}{px py tp:Pos}{x1}(hc:X.calm=true)(h1:PG X (.Name x px) (z2w n))(h2:PG X (.Name y py) (z2w (n+1)))
  (hs:(fA [.Name x px,.Name y py] X.env).map (·.2)=fF (.Name x px) X.env::(fA [.Name y py] X.env).map (·.2):=by rfl) (hs2:(fA [.Name y py] X.env).map (·.2)=fF (.Name y py) X.env::(fA [] X.env).map (·.2):=by rfl)
  (hn:(fA [.Name x px,.Name y py] X.env).length=2:=by rfl) (hst:(fA [.Name x px,.Name y py] X.env).findIdx? (·.1)=none:=by rfl):PG X (.Tuple [.Name x px,.Name y py] x1 tp) (gTwo X.K n):=
 x2L hc (z6Y h1 (z6Y h2 y6Z hs2) hs) hn hst
end
def y2B:D->Option Key
 |.int n=>some (.inl n)
 |.str x=>some (.inr x)
 |_=>none
theorem y2P{K:aa}{H:Hp}{B:Addr->Prop}{d:D}{k:Key}{v:V}(e:y2B d=some k)(r:Rep K H B d v):v=kV k:=by
 unfold y2B at e
 split at e
 ·cases e;unfold Rep at r;exact r
 ·cases e;unfold Rep at r;exact r
 ·cases e
def setK(ks:List Key)(ds:List D)(k:Key)(d:D):List D:=match ks,ds with
 |k'::ks,e::ds=>(if k'=k then d else e)::setK ks ds k d
 |_,_=>[]
def y1x(ks:List Key)(k:Key):Bool:=ks.any fun k'=>decide (k'=k)
def y1C(ks:List Key)(k:Key):List Key:=if y1x ks k=true then ks else ks++[k]
def y1w(ks:List Key)(ds:List D)(k:Key)(d:D):List D:=if y1x ks k=true then setK ks ds k d else ds++[d]
theorem y2u{k:Key}{kvs:List (Key×V)}{ks:List Key}(e:kvs.map (·.1)=ks):(kvs.any fun kv=>decide (kv.1=k))=y1x ks k:=by
 subst e
 unfold y1x
 rw[cU]
 rfl
theorem y4x{K:aa}{H:Hp}{k:Key}{d:D}{v:V}(td:Tree K H d v []):∀{kvs:List (Key×V)} {ds:List D},Trees K H ds (kvs.map (·.2)) []->Trees K H (setK (kvs.map (·.1)) ds k d) ((kvs.map fun kv=>if kv.1=k then(kv.1,v)else kv).map (·.2)) []
 |[],ds,t=>by
  cases ds with
  |nil=>exact .nil
  |cons e ds=>unfold Trees at t;obtain⟨_,_,_,_,z,_⟩:=t;cases z
 |p::r,[],t=>by obtain⟨z,_⟩:=t;cases z
 |p::r,e::ds,t=>by
  unfold Trees at t
  obtain⟨x,xs,B,C,e1,t1,t2,e2⟩:=t
  cases e1
  obtain⟨rfl,rfl⟩:=List.append_eq_nil_iff.mp e2.symm
  have ih:=y4x (k:=k) td (kvs:=r) t2
  rw[aH,aH,aH]
  unfold setK Trees
  refine⟨_,_,[],[],rfl,?_,ih,rfl⟩
  by_cases h:p.1=k
  ·rw[if_pos h,if_pos h];exact td
  ·rw[if_neg h,if_neg h];exact t1
theorem x0P{k:Key}{v:V}{kvs:List (Key×V)}:(z8q kvs k v).map (·.1)=y1C (kvs.map (·.1)) k:=by
 unfold z8q y1C
 rw[y2u (k:=k) (kvs:=kvs) rfl]
 by_cases h:y1x (kvs.map (·.1)) k=true
 ·rw[if_pos h,if_pos h,bp]
  apply dg
  intro p _
  show(if p.1=k then(p.1,v)else p).1=p.1
  split <;> rfl
 ·rw[if_neg h,if_neg h,aR]
  rfl
theorem x1K{K:aa}{H:Hp}{k:Key}{d:D}{v:V}{kvs:List (Key×V)}{ds:List D}(td:Tree K H d v [])(t:Trees K H ds (kvs.map (·.2)) []):Trees K H (y1w (kvs.map (·.1)) ds k d) ((z8q kvs k v).map (·.2)) []:=by
 unfold z8q y1w
 rw[y2u (k:=k) (kvs:=kvs) rfl]
 by_cases h:y1x (kvs.map (·.1)) k=true
 ·rw[if_pos h,if_pos h]
  exact y4x td t
 ·rw[if_neg h,if_neg h,aR]
  exact t.snoc td
theorem y3G{k:Key}{kvs:List (Key×V)}:(y4y kvs k).isSome=y1x (kvs.map (·.1)) k:=by rw[←z9t];exact y2u rfl
def inK:D->D->Option Bool:=fun x y=>match y with
 |.dct ks _=>(y2B x).map fun k=>y1x ks k
 |_=>none
def x0q(f g:DE):DS->Option Bool:=fun δ=>(f δ).bind fun x=>(g δ).bind fun y=>inK x y
def x1u(f g:DE):DS->Option Bool:=fun δ=>(x0q f g δ).map (!·)
section
variable{X:Cx}{a b o i:Expr}{f g:DE}{pos pos':Pos}
theorem y4U{δ:DS}{c:Bool}(h:x0q f g δ=some c):∃x k ks ds,f δ=some x∧y2B x=some k∧g δ=some (.dct ks ds)∧c=y1x ks k:=by
 unfold x0q at h
 cases e1:f δ with
 |none=>rw[e1]at h;cases h
 |some x=>
  rw[e1]at h
  cases e2:g δ with
  |none=>rw[e2]at h;cases h
  |some y=>
   rw[e2]at h
   have h:inK x y=some c:=h
   unfold inK at h
   split at h
   ·cases e3:y2B x with
    |none=>rw[e3]at h;cases h
    |some k=>rw[e3]at h;cases h;exact⟨x,k,_,_,rfl,e3,rfl,rfl⟩
   ·cases h
theorem pt_din(hu:X.A.units+64<fK)(ha:PD X a f)(hb:PD X b g)(hm:fB .In b=false:=by rfl):PTD X (.Compare a [.In] [b] pos) (x0q f g):=
 (y7U (pc_din ⋯ ha hb) hm).imp fun σ H Q ⟨B,δ,c,hB,S,q,k⟩=>by
  obtain⟨x,ky,ks,ds,e1,e2,e3,rfl⟩:=y4U q
  refine⟨B,δ,x,hB,S,e1,fun v H1 s1 r1=>⟨B,δ,_,hB.mono s1,S.mono s1,e3,fun w H2 s2 r2=>?_⟩⟩
  unfold Rep at r2
  obtain⟨p,kvs,rfl,n,hp,ek,rs⟩:=r2
  have ev:=y2P e2 r1
  subst ev
  refine⟨p,y4y kvs ky,rfl,DGet.k hp,_,rfl,?_⟩
  rw[y3G,ek]
  exact k H2 (s1.trans s2)
theorem pt_dnin(hu:X.A.units+64<fK)(ha:PD X a f)(hb:PD X b g)(hm:fB .NotIn b=false:=by rfl):PTD X (.Compare a [.NotIn] [b] pos) (x1u f g):=
 (y7U (y7I ⋯ ha hb) hm).imp fun σ H Q ⟨B,δ,c,hB,S,q,k⟩=>by
  unfold x1u at q
  cases e0:x0q f g δ with
  |none=>rw[e0]at q;cases q
  |some c0=>
  rw[e0]at q
  cases q
  obtain⟨x,ky,ks,ds,e1,e2,e3,rfl⟩:=y4U e0
  refine⟨B,δ,x,hB,S,e1,fun v H1 s1 r1=>⟨B,δ,_,hB.mono s1,S.mono s1,e3,fun w H2 s2 r2=>?_⟩⟩
  unfold Rep at r2
  obtain⟨p,kvs,rfl,n,hp,ek,rs⟩:=r2
  have ev:=y2P e2 r1
  subst ev
  refine⟨p,y4y kvs ky,rfl,DGet.k hp,_,rfl,?_⟩
  rw[y3G,ek]
  exact k H2 (s1.trans s2)
theorem pn_dnew:PN X (.Dict [] [] pos) (dC (.dct [] [])):=pe_dnewK.imp fun σ H Q ⟨δ,d,S,q,k⟩=>by
 cases q
 intro p hp
 refine k _ _ [p] (z0s hp) ?_ (aA.mpr ⟨fun z=>(nomatch z),aY⟩) fun a ha=>?_
 ·unfold Tree
  exact⟨p,[],[],rfl,z0r,rfl,.nil,rfl⟩
 ·rw[ag.mp ha];exact hp
variable{H0:Hp}{B0:Addr->Prop}{fr:Bool}{RX:XR}{x:Str}{px:Pos}{ke e:Expr}
def dput(i:Nat)(fk fv:DE):SS->Option Out:=fun δ=>(fv (z0w δ)).bind fun d=>if d.imm=true then(fk (z0w δ)).bind fun dk=>(match y2B dk,δ[i]? with
 |some k,some (some (.ow (.dct ks ds)))=>if z2d ds=true∧ks.length<sizeLine then some (.nx ((z0M i δ).set i (some (.ow (.dct (y1C ks k) (y1w ks ds k d))))))else none
 |_,_=>none)else none
theorem y8p{K:aa}{H:Hp}{ds:List D}{xs:List V}{A:List Addr}(t:Trees K H ds xs A)(h:z2d ds=true):Trees K H ds xs []:=Reps.immTree (B:=fun _=>False) ds h (t.rep ds fun _ _ z=>z)
theorem x3b{i:Nat}{fk fv:DE}(hu:X.A.units+64<fK)(hx:PE X (.Name x px) (y1a i))(hk:PD X ke fk)(hv:PD X e fv)
  (hs:swapsWith e (some (.Subscript (.Name x px) ke pos')) pos.line X.env=pure false:=by rfl):
  PS X (.Assign [.Subscript (.Name x px) ke pos'] e pos) (tS X.K H0 B0 fr RX (dput i fk fv)):=
 PS.imp (ps_dput ⋯ hx hk hv hs) fun D σ H ⟨δ,R,o,rs,q,kk⟩=>by
  unfold dput at q
  cases e1:fv (z0w δ)with
  |none=>rw[e1]at q;cases q
  |some d=>
  rw[e1,aj]at q
  split at q
  case isFalse=>cases q
  case isTrue hi=>
  cases e2:fk (z0w δ)with
  |none=>rw[e2]at q;cases q
  |some dk=>
  rw[e2,aj]at q
  split at q
  case h_2=>cases q
  case h_1 k ks ds e3 ei=>
  split at q
  case isFalse=>cases q
  case isTrue hc=>
  cases q
  obtain⟨v0,ev,t0,nd⟩:=rs.ow i _ ei
  unfold Tree at t0
  obtain⟨a,kvs,A,rfl,ha,ek,ts,eR⟩:=t0
  have ts:=y8p ts hc.1
  refine⟨noB,z0w δ,d,.no,rs.all,e1,fun v H1 s1 r1=>⟨.ref a,ev,noB,z0w δ,dk,.no,rs.all.mono s1,e2,fun kv H2 s2 r2=>?_⟩⟩
  have ekv:=y2P e3 r2
  subst ekv
  subst ek
  have ha2:H2 a=some (.dK kvs):=s2 _ _ (s1 _ _ ha)
  refine⟨a,_,rfl,DPut.k ha2 (by rw[←ao (f:=(·.1))];exact hc.2),?_⟩
  have haR:a∈R i:=by rw[eR];exact ac
  have mu:Mut (H2 a):=by rw[ha2];exact trivial
  have td:Tree X.K H2 d v []:=(r1.immTree d hi).mono s2
  have tp:=x1K (k:=k) td (ts.mono (s1.trans s2))
  have P:=rs.rewrite (d':=.dct (y1C (kvs.map (·.1)) k) (y1w (kvs.map (·.1)) ds k d)) (a:=a) (o:=.dK (z8q kvs k v)) (A':=[a]) (s1.trans s2) ei ev haR (by
   unfold Tree
   exact⟨a,z8q kvs k v,[],rfl,z0r,x0P,Trees.keep (Keep.upd (K:=X.K) (B:=fun x=>x=a) rfl mu).i _ tp fun b hb=>(nomatch hb),rfl⟩) (aA.mpr ⟨fun z=>(nomatch z),aY⟩) fun b hb=>by
    rw[ag.mp hb];exact .inl haR
  exact kk σ _ _ P.1 P.2
end
end L2
namespace HT
open PySem PySem.Spec PyProof.Rows
section
end
end HT
namespace L2
open PySem PySem.Spec PyProof.Rows
section
variable{X:Cx}{pos p2:Pos}
variable{f g:DE}
variable{a b:Expr}
def catLs:D->D->Option (List D)
 |.lst ds,.lst es=>if ds.length+es.length≤sizeLine then some (ds++es)else none
 |_,_=>none
def y3P(f g:DE):DS->Option (List D):=fun δ=>(f δ).bind fun x=>(g δ).bind fun y=>catLs x y
theorem z5N(ha:PD X a f)(hb:PD X b g):PF X (.BinOp a .Add b pos) (y3P f g):=(x1t op_cat ha hb).imp fun σ H Q ⟨B,δ,ds,hB,S,q,k⟩=>by
 unfold y3P at q
 cases e1:f δ with
 |none=>rw[e1]at q;cases q
 |some x=>
 rw[e1,aj]at q
 cases e2:g δ with
 |none=>rw[e2]at q;cases q
 |some y=>
 rw[e2,aj]at q
 unfold catLs at q
 split at q
 case h_2=>cases q
 case h_1 xs ys=>
 split at q
 case isFalse=>cases q
 case isTrue hl=>
 cases q
 refine⟨B,δ,_,hB,S,e1,fun v H1 s1 r1=>⟨B,δ,_,hB.mono s1,S.mono s1,e2,fun v2 H2 s2 r2=>?_⟩⟩
 unfold Rep at r1 r2
 obtain⟨p1,vs,rfl,n1,h1,rs1⟩:=r1
 obtain⟨p2,ws,rfl,n2,h2,rs2⟩:=r2
 refine⟨p1,p2,vs,ws,rfl,rfl,s2 _ _ h1,h2,by rw[←rs1.length,←rs2.length];exact hl,fun p hp=>?_⟩
 exact k p _ _ ((s1.trans s2).trans (z0s hp)) ((s1.trans s2).free hp) z0r (((rs1.mono s2).append rs2).mono (z0s hp))
end
section
variable{X:Cx}{o e:Expr}{apos cpos:Pos}
def rLIx(K:aa):V->List V->Hp->VK->Prop:=fun x vs H Q=>∃(a:Addr) (ns:List Int) (i:Int) (j:Nat),x = .ref a∧vs=[.int i]∧SqL K H a (ns.map V.int)∧ns.findIdx? (fun n=>n==i)=some j∧Q (.int (j:Int)) H
theorem y8e:MtR X "list.index" (rLIx X.K):=by
 intro pins s σ H x vs v us Q I rx rv h
 obtain⟨a,ns,i,j,rfl,rfl,hq,hj,q⟩:=h
 cases rx
 obtain⟨u,rfl,ru⟩:=rv.one
 obtain⟨ut,rfl⟩:=ru
 obtain⟨its,r,⟨⟨cls,dct,dat,sl⟩,n,e,c,d,hd⟩,hz⟩:=I.list hq
 have c:cls = .type "list" := c
 have hd:dat = .seq its.toArray n:=hd
 subst c;subst hd
 obtain⟨hjl,hji,hjm⟩:=List.findIdx?_eq_some_iff_getElem.mp hj
 have hl:ns.length=its.length:=by have:=r.length;simpa using this
 have hj2:j<its.length:=by omega
 rw[sizeLine_eq,ao]at hz
 refine call_meets F.slot_list_index ⟨_,e,rfl⟩ F.entry_list_index (F.args_list_index_2 _ _) (SeqAt.list_indexAt a its.toArray n dct sl (.int i ut) (isI i) j (by simpa using hj2) ⋯ ?_ ?_) ⟨e,?_,?_⟩
 ·obtain⟨t,h2,e2⟩:=x0G r j hj2
  simp[e2,isI]
  simpa using hji
 ·intro m hm hmj
  obtain⟨t,h2,e2⟩:=x0G r m ⋯
  have:=hjm m hmj
  simp[e2,isI]
  simpa using this
 ·intro y hy
  obtain⟨k,hk,rfl⟩:=List.getElem_of_mem (show y∈its by simpa using hy)
  obtain⟨t,h2,e2⟩:=x0G r k hk
  rw[e2]
  exact SeqAt.EqAt.int_int _ _ _ _
 ·exact⟨.int (j:Int),H,I.tok _,⟨_,rfl⟩,q⟩
def lixF:D->D->Option D
 |.lst ds,.int i=>(z2O ds).bind fun ns=>(ns.findIdx? (fun n=>n==i)).map fun j=>.int (j:Int)
 |_,_=>none
theorem y8S{f g:DE}(ho:PD X o f)(he:PD X e g)(hbase:fG o "index" X.env (eval o X.env)=eval o X.env:=by rfl)
  (hfew:((fD cpos (starEach [e] X.env)).all (fun x=>!x.1)&&(backToKw cpos (keywordEach [] X.env)).all (fun x=>x.1.isSome)&&decide ([e].length+([]:List fH).length+(if([]:List fH).isEmpty then 0 else 1)<30))=true:=by rfl)
  (hline:(apos.endLine==cpos.line)=true:=by rfl) (hs:starEach [e] X.env=(false,eval e X.env)::starEach [] X.env:=by rfl):
  PD X (.Call (.Attribute o "index" apos) [e] [] cpos) (d2 lixF f g):=
 (y8R PySem.F.plainAttrs_list PySem.F.slot_list_index PySem.F.type_list_index y8e ho (z1e he pa_nil hs) hbase hfew hline hs rfl).imp fun σ H Q ⟨B,δ,d,hB,S,q,k⟩=>by
  obtain⟨x,y,e1,e2,e3⟩:=z9Y q
  unfold lixF at e3
  split at e3
  case h_2=>cases e3
  case h_1 ds i=>
  cases e4:z2O ds with
  |none=>rw[e4]at e3;cases e3
  |some ns=>
  rw[e4,aj]at e3
  cases e5:ns.findIdx? (fun n=>n==i)with
  |none=>rw[e5]at e3;cases e3
  |some j=>
  rw[e5]at e3
  cases e3
  have eds:=z7k e4
  subst eds
  refine⟨B,δ,_,hB,S,e1,fun v H1 s1 r1=>?_⟩
  unfold Rep at r1
  obtain⟨a,xs,rfl,nb,hq,rs⟩:=r1
  have ex:=z7c rs
  subst ex
  refine⟨.inl ⟨rfl,_,SqL.of hq⟩,B,δ,_,hB.mono s1,S.mono s1,e2,fun v2 H2 s2 r2=>?_⟩
  unfold Rep at r2
  subst r2
  exact⟨a,ns,i,j,rfl,rfl,SqL.of (s2 _ _ hq),e5,k _ H2 (s1.trans s2) (by unfold Rep;rfl)⟩
end
section
end
def cntR(lo hi c:Int):Nat:=if lo<hi then((hi - lo - 1) / c+1).toNat else 0
def Itr3(lo c:Int)(n:Nat):It:=⟨fun i _=>i<n,fun i H x H'=>H'=H∧x = .int (lo+(i:Nat)*c),fun i _=>n≤i⟩
theorem y3h{P:fw}{w:fx}{K:aa}{tg:Expr}(it:Addr)(lo c:Int)(n:Nat):Turn P w K tg (Itr3 lo c n) [it] it (fun i h=>IsRangeIter h it (lo+(i:Nat)*c) ((n:Int) - (i:Nat)) c) where
 mem:=by simp
 obj:=fun i h st b hb=>by
  have e:b=it:=by simpa using hb
  subst e
  exact⟨_,st,fun v z=>by
   have z':Data.fields _=Data.cell v:=z
   cases z'⟩
 keep:=fun i h h' st k=>k it (by simp) _ st
 item:=by
  intro X hP hw hK hc i pins s σ H E I hf st hg
  subst hP hw hK
  obtain⟨f0,f1,f2,f3,f4,f5⟩:=hf it (by simp)
  have W:=Walks.range (prog:=X.prog) (w:=X.w) (I.ok.hd hc) it lo c n
  refine W.item i s _ _ hg st fun v h' tk hv st' kk=>?_
  obtain⟨t,rfl⟩:=hv
  have I1:Inv X pins σ H { s with heap:=h',toks:=tk }:=I.turned (fun b o hb e=>kk b o (by simpa using hb) e) f0 f1 f3 f4 f5
  exact⟨_,rfl,y8s (s:={ s with heap:=h',toks:=tk }) (n := "range_iterator") st' rfl rfl nofun ⟨.int (lo+(i:Nat)*c),H,I1,⟨t,rfl⟩,⟨rfl,rfl⟩,st',fun b hb=>(hf b hb).1⟩⟩
 done:=by
  intro X hP hw hK hc i pins s σ H E I hf st hg
  subst hP hw hK
  obtain⟨f0,f1,f2,f3,f4,f5⟩:=hf it (by simp)
  exact wpAny_pyNext_range_end (I.ok.hd hc) st (by have:n≤i:=hg;omega) fun h' eb=>⟨rfl,I.turned (t':=s.toks) (fun b o hb e=>eb b o hb e) f0 f1 f3 f4 f5⟩
 self:=fun _ _ _ _ _ st h=>wpAny_pyIter_rangeiter st h
section
theorem Vals.three:∀{x y z:V} {us:List Value},Vals [x,y,z] us->∃u v w,us=[u,v,w]∧RelV x u∧RelV y v∧RelV z w
 |_,_,_,_,.cons r (.cons q (.cons p .nil))=>⟨_,_,_,rfl,r,q,p⟩
def y8I(lo c:Int)(n:Nat):List D:=(ah n).map fun i=>.int (lo+(i:Nat)*c)
theorem x0U{lo c:Int}{n i:Nat}(h:i<n):(y8I lo c n)[i]? = some (.int (lo+(i:Nat)*c)):=by
 unfold y8I
 rw[aG,cI h]
 rfl
theorem z9I{lo c:Int}{n:Nat}:(y8I lo c n).length=n:=by simp[y8I]
theorem x0O{K:aa}{H:Hp}{B:Addr->Prop}{lo c:Int}{n:Nat}:ItD K (Itr3 lo c n) H B (y8I lo c n):=by
 refine⟨fun i H' _ hi=>?_,fun i H' _ hi=>?_,fun i H' x H2 _ y=>?_⟩
 ·rw[z9I]at hi;exact hi
 ·rw[z9I]at hi;exact hi
 ·obtain⟨e,y⟩:=y
  subst e y
  exact⟨.refl _,.int (lo+(i:Nat)*c),fun h=>x0U (by rwa [z9I]at h),rfl⟩
def rng3:Option D->Option D->Option D->Option (List D)
 |some (.int i),some (.int j),some (.int c)=>if -(2 ^ 61)≤i∧i<2 ^ 61∧-(2 ^ 61)≤j∧j<2 ^ 61∧0<c∧c<2 ^ 30 then some (y8I i c (cntR i j c))else none
 |_,_,_=>none
end
def z4S(c:DS->Option Bool)(b:SS->Option Out):Nat->SS->Option Out
 |0,_=>none
 |n+1,δ=>(c (z0w δ)).bind fun k=>if k=true then(b δ).bind fun o=>(match o with
  |.nx δ'=>z4S c b n δ'
  |.ct δ'=>z4S c b n δ'
  |.bk δ'=>some (.nx δ')
  |.rt d=>some (.rt d)
  |.rb d δ'=>some (.rb d δ')
  |.ex c δ'=>some (.ex c δ'))else some (.nx δ)
section
variable{X:Cx}{H0:Hp}{B0:Addr->Prop}{fr:Bool}{RX:XR}{pos:Pos}
theorem y8h{c:Expr}{body:List Stmt}{fc:DS->Option Bool}{g:SS->Option Out}(n:Nat)(hp:PassesOwn (model X.prog X.w) X.A X.env X.xe)(hc:PTD X c fc)(hb:PSs X body (tS X.K H0 B0 fr RX g)):PS X (.While c body [] pos) (tS X.K H0 B0 fr RX (z4S fc g n)):=
 PS.imp (x0M hp hc hb) fun D σ H ⟨δ,R,o,rs,q,k⟩=>by
  refine⟨fun m σ' H'=>∃δ' R',RS X.K H0 B0 H' σ' δ' R'∧Stp R H R' H'∧z4S fc g m δ'=some o,⟨n,δ,R,rs,.refl R H,q⟩,?_⟩
  rintro m σ' H' ⟨δ',R',rs',s',q'⟩
  cases m with
  |zero=>cases q'
  |succ m=>
   unfold z4S at q'
   cases ec:fc (z0w δ')with
   |none=>rw[ec]at q';cases q'
   |some kk=>
    rw[ec,aj]at q'
    refine⟨noB,z0w δ',kk,.no,rs'.all,ec,fun H1 s1=>?_⟩
    have rs1:=rs'.mono s1
    have st1:Stp R H R' H1:=s'.trans (.same s1)
    cases kk with
    |false=>
     rw[if_neg av]at q'
     cases q'
     exact k σ' H1 R' rs1 st1
    |true=>
     rw[if_pos rfl]at q'
     cases eb:g δ' with
     |none=>rw[eb]at q';cases q'
     |some ob=>
      rw[eb,aj]at q'
      refine⟨fun σ2 H2=>∃δ2 R2,RS X.K H0 B0 H2 σ2 δ2 R2∧Stp R H R2 H2∧z4S fc g m δ2=some o,fun σ2 H2 z=>⟨m,dW m,z⟩,δ',R',ob,rs1,eb,?_⟩
      cases ob with
      |nx δ2=>exact fun σ3 H3 R3 rs3 s3=>⟨δ2,R3,rs3,st1.trans s3,q'⟩
      |ct δ2=>exact fun σ3 H3 R3 rs3 s3=>⟨δ2,R3,rs3,st1.trans s3,q'⟩
      |bk δ2=>
       cases q'
       exact fun σ3 H3 R3 rs3 s3=>k σ3 H3 R3 rs3 (st1.trans s3)
      |rt d=>
       cases q'
       exact k.back st1
      |rb d δ2=>
       cases q'
       exact k.back st1
      |ex c δ2=>
       cases q'
       exact k.back st1
def isN:D->Bool
 |.non=>true
 |_=>false
theorem rep_isN{K:aa}{H:Hp}{B:Addr->Prop}{d:D}{v:V}(r:Rep K H B d v):decide (v=V.non)=isN d:=by
 cases d with
 |non=>unfold Rep at r;subst r;rfl
 |bl b=>unfold Rep at r;subst r;rfl
 |int i=>unfold Rep at r;subst r;rfl
 |str x=>unfold Rep at r;subst r;rfl
 |lst ds=>unfold Rep at r;obtain⟨a,xs,rfl,_⟩:=r;rfl
 |tup ds=>unfold Rep at r;obtain⟨a,xs,rfl,_⟩:=r;rfl
 |scr ns=>unfold Rep at r;obtain⟨a,rfl,_⟩:=r;rfl
 |dct ks ds=>unfold Rep at r;obtain⟨a,kvs,rfl,_⟩:=r;rfl
 |exc x=>unfold Rep at r;obtain⟨a,C,rfl,_⟩:=r;rfl
 |obj x a ks ds=>unfold Rep at r;obtain⟨C,dx,fs,_,_,⟨rfl,_⟩,_⟩:=r;rfl
 |cel a ds=>unfold Rep at r;obtain⟨xs,_,_,rfl,_⟩:=r;rfl
def y7R(f:DE):DS->Option Bool:=fun δ=>(f δ).map fun d=>!isN d
variable{a:Expr}{f:DE}
theorem y5g{j pos'}(ha:PD X a f)(hm:fB .IsNot (.Constant .none j pos')=false:=by rfl):PTD X (.Compare a [.IsNot] [.Constant .none j pos'] pos) (y7R f):=(y7U (pc_notN ha) hm).imp fun σ H Q ⟨B,δ,c,hB,S,q,k⟩=>by
 unfold y7R at q
 cases e:f δ with
 |none=>rw[e]at q;cases q
 |some d=>
  rw[e]at q
  cases q
  refine⟨B,δ,d,hB,S,e,fun v H1 s1 r1=>⟨_,rfl,?_⟩⟩
  rw[rep_isN r1]
  exact k H1 s1
end
section
variable{X:Cx}{a b:Expr}{f:DE}{pos:Pos}
variable{H0:Hp}{B0:Addr->Prop}{fr:Bool}{RX:XR}{x:Str}{px ap cp:Pos}{e:Expr}
def y7b(i:Nat)(f:DE):SS->Option Out:=fun δ=>(f (z0w δ)).bind fun d=>(match d,δ[i]? with
 |.lst es,some (some (.ow (.lst ds)))=>if ds.length+es.length≤sizeLine then some (.nx ((z0M i δ).set i (some (.ow (.lst (ds++es))))))else none
 |_,_=>none)
theorem y7r{i:Nat}(hx:PE X (.Name x px) (y1a i))(he:PN X e f)(hbase:fG (.Name x px) "extend" X.env (eval (.Name x px) X.env)=eval (.Name x px) X.env:=by rfl)
  (hfew:((fD cp (starEach [e] X.env)).all (fun x=>!x.1)&&(backToKw cp (keywordEach [] X.env)).all (fun x=>x.1.isSome)&&decide ([e].length+([]:List fH).length+(if([]:List fH).isEmpty then 0 else 1)<30))=true:=by rfl)
  (hline:(ap.endLine==cp.line)=true:=by rfl) (hs:starEach [e] X.env=(false,eval e X.env)::starEach [] X.env:=by rfl) (hsw:swapsWith (.Call (.Attribute (.Name x px) "extend" ap) [e] [] cp) none pos.line X.env=pure false:=by rfl):
  PS X (.Expr (.Call (.Attribute (.Name x px) "extend" ap) [e] [] cp) pos) (tS X.K H0 B0 fr RX (y7b i f)):=
 PS.imp (z6w (y8R PySem.F.plainAttrs_list PySem.F.slot_list_extend PySem.F.type_list_extend y0S hx (z1e he pa_nil hs) hbase hfew hline hs rfl) hsw) fun D σ H ⟨δ,R,o,rs,q,k⟩=>by
  unfold y7b at q
  cases e1:f (z0w δ)with
  |none=>rw[e1]at q;cases q
  |some d=>
  rw[e1,aj]at q
  split at q
  case h_2=>cases q
  case h_1 es ds ei=>
  split at q
  case isFalse=>cases q
  case isTrue hl=>
  cases q
  obtain⟨a,xs,A,ev,ha,ts,eR,nd⟩:=rs.top ei
  refine⟨.ref a,ev,.inl ⟨rfl,xs,SqL.of ha⟩,z0w δ,_,rs.all,e1,fun y H2 C s2 t2 nC fC=>?_⟩
  unfold Tree at t2
  obtain⟨b,zs,C',rfl,hb,tz,rfl⟩:=t2
  have nC':=(aA.mp nC).2
  refine⟨a,b,xs,zs,rfl,rfl,s2 _ _ ha,hb,by rw[←ts.length,←tz.length];exact hl,?_⟩
  have hAC:(A++C').Nodup:=aO.mpr ⟨(aA.mp nd).2,nC',fun p hp c hc z=>by
   subst z
   obtain⟨u,q,_⟩:=Trees.held ds ts p hp
   rw[fC p (ae _ hc)]at q;cases q⟩
  have P:=rs.put0 s2 ei ev eR nd ((ts.mono s2).append tz) hAC fun p hp=>(au.mp hp).imp id fun z=>fC p (ae _ z)
  exact k σ _ _ P.1 P.2
end
def insS(x:Int):List Int->List Int
 |[]=>[x]
 |y::r=>if x≤y then x::y::r else y::insS x r
def y0p:List Int->List Int
 |[]=>[]
 |x::r=>insS x (y0p r)
theorem z8d(x:Int):∀l:List Int,(insS x l).Perm (x::l)
 |[]=>.refl _
 |y::r=>by
  unfold insS
  split
  ·exact .refl _
  ·exact((z8d x r).cons y).trans (.swap x y r)
theorem y0r:∀l:List Int,(y0p l).Perm l
 |[]=>.refl _
 |x::r=>(z8d x _).trans ((y0r r).cons x)
theorem z7r{x:Int}:∀{l:List Int},l.Pairwise (· ≤ ·)->(insS x l).Pairwise (· ≤ ·)
 |[],_=>by unfold insS;simp
 |y::r,h=>by
  unfold insS
  split
  ·rename_i hxy
   refine aM.mpr ⟨fun z hz=>?_,h⟩
   rcases ai.mp hz with e | e
   ·omega
   ·have:=(aM.mp h).1 z e
    omega
  ·rename_i hxy
   refine aM.mpr ⟨fun z hz=>?_,z7r (aM.mp h).2⟩
   rcases ai.mp ((z8d x r).mem_iff.mp hz)with e | e
   ·omega
   ·exact(aM.mp h).1 z e
theorem z7Z:∀l:List Int,(y0p l).Pairwise (· ≤ ·)
 |[]=>.nil
 |_::r=>z7r (z7Z r)
theorem z8T:∀{a b:List Int},a.Perm b->a.Pairwise (· ≤ ·)->b.Pairwise (· ≤ ·)->a=b
 |[],b,p,_,_=>(List.nil_perm.mp p).symm
 |x::a,[],p,_,_=>by have:=p.length_eq;simp at this
 |x::a,y::b,p,ha,hb=>by
  obtain⟨ha1,ha2⟩:=aM.mp ha
  obtain⟨hb1,hb2⟩:=aM.mp hb
  have hxy:x=y:=by
   have h1:x∈y::b:=p.mem_iff.mp ac
   have h2:y∈x::a:=p.mem_iff.mpr ac
   rcases ai.mp h1 with e | e
   ·exact e
   ·rcases ai.mp h2 with e' | e'
    ·exact e'.symm
    ·have:=ha1 y e'
     have:=hb1 x e
     omega
  subst hxy
  rw[z8T (List.perm_cons x |>.mp p) ha2 hb2]
theorem z9F{a l:List Int}(p:a.Perm l)(h:a.Pairwise (· ≤ ·)):a=y0p l:=z8T (p.trans (y0r l).symm) h (z7Z l)
section
variable{prog:fw}{w:fx}{A:Around}{E:Value->dw->Prop}{s:dw}
theorem z8Z{l:Addr}{T:String}{o:Obj}{vs:List Value}{n:Nat}{ns:List Int}{Q:Value->dw->Prop}(hT:T = "list" ∨ T = "tuple")(ho:s.heap.get? l=some o)(hc:o.cls = .type T)(hd:o.data = .seq vs.toArray n)(hI:fJ vs ns)(h64:vs.length<64)
  (h:∀(h1 h':Heap) (out:List Value) (e:Nat) (ns':List Int),(∀b o',s.heap.get? b=some o'->h1.get? b=some o')->(∀b o',h1.get? b=some o'->h'.get? b=some o')->h'.get? h1.objs.size=some { cls:=.type "list",data:=.seq out.toArray e }->fJ out ns'->ns'.Perm ns->ns'.Pairwise (· ≤ ·)->Q (.ref h1.objs.size) { s with heap:=h' }):
  wpAny (model prog w) A (call (.builtin "sorted") [.ref l]) Q E s:=by
 refine Calls.call_function_entry kind_sorted plain_sorted entry_sorted (args_sorted1 _) ?_
 unfold Builtin.«sorted»
 refine wpAny_bind (m:=checkCount "sorted" 1 1 _) (wpAny_pure ?_)
 refine wpAny_bind (wpAny_collect_seq l hT ho hc hd (fun h1 k1=>?_) (by rw[ay,sizeLine_eq];omega))
 rw[List.toList_toArray]
 refine wpAny_bind (wpAny_newList ?_)
 have hoL:(h1.push (seqObj "list" vs.toArray 0)).get? h1.objs.size=some (seqObj "list" vs.toArray 0):=Heap.get?_push_size _ rfl
 show wpAny _ _ _ _ _ { s with heap:=h1.push (seqObj "list" vs.toArray 0) }
 refine wpAny_bind (wpAny_holding (wpAny_call_entry slot_list_sort ⟨_,hoL,rfl⟩ entry_list_sort (list_sort_tree hoL hI h64 fun out ns' a1 a2 a3=>⟨_,rfl,?_⟩) (args_list_sort _)))
 obtain⟨e,he⟩:=sortedHeap_at (out:=out) hoL
 refine wpAny_pure ⟨_,rfl,h h1 _ out.toList e ns' k1 (fun b o' hb=>?_) (by simpa[seqObj] using he) a1 a2 a3⟩
 have hlt:b<h1.objs.size:=Heap.lt_size hb
 rw[sortedHeap_old (aE hlt) (by rw[size_push'];exact ck hlt)]
 exact Heap.get?_push_of_some _ hb
end
section
variable{X:Cx}
theorem intsV:∀{ns:List Int} {vs:List Value},fJ vs ns->Vals (ns.map V.int) vs
 |_,_,.nil=>.nil
 |_,_,.cons n t r=>.cons ⟨t,rfl⟩ (intsV r)
theorem z9z:∀{ns:List Int} {vs:List Value},Vals (ns.map V.int) vs->fJ vs ns
 |[],_,.nil=>.nil
 |n::ns,_,.cons ⟨t,e⟩ r=>by subst e;exact .cons n t (z9z r)
theorem y1h:z5r X (.builtin "sorted") (fun xs H Q=>∃(p:Addr) (ns:List Int),xs=[.ref p]∧(SqL X.K H p (ns.map V.int)∨SqT X.K H p (ns.map V.int))∧ns.length<64∧∀l,H l=none->Q (.ref l) (upd H l (.lst ((y0p ns).map V.int)))):=by
 intro pins s σ H xs us Q I r h
 obtain⟨p,ns,rfl,hq,h64,q⟩:=h
 obtain⟨u,rfl,rx⟩:=y0a r
 cases rx
 have fin:∀(its:List Value),Vals (ns.map V.int) its->∀(h1 h':Heap) (out:List Value) (e:Nat) (ns':List Int),(∀b o',s.heap.get? b=some o'->h1.get? b=some o')->(∀b o',h1.get? b=some o'->h'.get? b=some o')->h'.get? h1.objs.size=some { cls:=.type "list",data:=.seq out.toArray e }->fJ out ns'->ns'.Perm ns->ns'.Pairwise (· ≤ ·)->EP X pins σ Q (.ref h1.objs.size) { s with heap:=h' }:=by
  intro its rv h1 h' out e ns' k1 k2 ho hi hp hs
  have es:=z9F hp hs
  subst es
  have I1:Inv X pins σ H { s with heap:=h1 }:=I.kept (t':=s.toks) k1
  refine⟨.ref h1.objs.size,_,Inv.laid (s:={ s with heap:=h1 }) (t':=s.toks) I1 k2 (ar _) (show ObjOk X.prog X.w _ h' _ (.lst ((y0p ns).map V.int)) from⟨?_,out,e,intsV hi,ho⟩),rfl,q _ (I1.hok.fresh (ar _))⟩
  rw[ao,hp.length_eq,sizeLine_eq]
  omega
 rcases hq with hq | hq
 ·obtain⟨its,rv,⟨o,n,e,c,_,d⟩,hz⟩:=I.list hq
  have hlen:its.length=ns.length:=by have:=rv.length;simpa using this.symm
  exact z8Z (.inl rfl) e c d (z9z rv) ⋯ (fin its rv)
 ·obtain⟨its,o,n,rv,e,c,_,d,hz⟩:=I.tupleO hq
  have hlen:its.length=ns.length:=by have:=rv.length;simpa using this.symm
  exact z8Z (.inr rfl) e c d (z9z rv) ⋯ (fin its rv)
def y5E:List D->Option (List D)
 |[.lst ds]=>(z2O ds).bind fun ns=>if ns.length<64 then some ((y0p ns).map .int)else none
 |[.tup ds]=>(z2O ds).bind fun ns=>if ns.length<64 then some ((y0p ns).map .int)else none
 |_=>none
theorem y1Q{ds es:List D}(h:((z2O ds).bind fun ns=>if ns.length<64 then some ((y0p ns).map D.int)else none)=some es):∃ns:List Int,ds=ns.map D.int∧ns.length<64∧es=(y0p ns).map D.int:=by
 cases e:z2O ds with
 |none=>rw[e]at h;cases h
 |some ns=>
  rw[e,aj]at h
  split at h
  ·cases h
   exact⟨ns,z7k e,by assumption,rfl⟩
  ·cases h
theorem ol_sort{K:aa}:OpL K (fun xs H Q=>∃(p:Addr) (ns:List Int),xs=[.ref p]∧(SqL K H p (ns.map V.int)∨SqT K H p (ns.map V.int))∧ns.length<64∧∀l,H l=none->Q (.ref l) (upd H l (.lst ((y0p ns).map V.int)))) y5E:=by
 intro H B ds es vs Q hB hr q k
 unfold y5E at q
 split at q
 ·obtain⟨ns,rfl,h64,rfl⟩:=y1Q q
  obtain⟨v,rfl,r⟩:=z5k hr
  unfold Rep at r
  obtain⟨a,xs,rfl,_,h,rs⟩:=r
  have ex:=z7c rs
  subst ex
  exact⟨a,ns,rfl,.inl (SqL.of h),h64,fun l hl=>k l _ _ (z0s hl) hl z0r (z1G _)⟩
 ·obtain⟨ns,rfl,h64,rfl⟩:=y1Q q
  obtain⟨v,rfl,r⟩:=z5k hr
  unfold Rep at r
  obtain⟨a,xs,rfl,h,rs⟩:=r
  have ex:=z7c rs
  subst ex
  exact⟨a,ns,rfl,.inr h,h64,fun l hl=>k l _ _ (z0s hl) hl z0r (z1G _)⟩
 ·cases q
variable{e:Expr}{f:DE}{p pos:Pos}
theorem y9a(hg:Gl X "sorted")(hm:X.mg "sorted" = none)(h:PD X e f)(he:starEach [e] X.env=[(false,eval e X.env)]:=by rfl):PF X (.Call (.Name "sorted" p) [e] [] pos) (z1z y5E [f]):=
 (z5W y1h hg hm boot_sorted (z0a h z0d he) nofun nofun he rfl).imp (callL ol_sort)
end
section
variable{prog:fw}{w:fx}{A:Around}{s:dw}{R:Result->dw->Prop}
variable{I:Addr}{fp wr:List Addr}{G:Array GenState->Array GenState->Prop}{n:Nat}{P:Nat->Value->Prop}{St:Nat->dw->Prop}
theorem y6a:typeLookup (.type "list_reverseiterator") "__len__" = pure none:=by rw[typeLookup_type,builtinLookup_eq_fast];kernel_rfl
theorem x1I:typeLookup (.type "list_reverseiterator") "__length_hint__" = pure (some (.builtin "list_reverseiterator.__length_hint__")):=by rw[typeLookup_type,builtinLookup_eq_fast];kernel_rfl
theorem z6R(W:WalksS prog w A.in1 I fp wr G n P St)(hT:∀i s,St i s->s.TypeIs (.ref I) "list_reverseiterator")(S:Addr)(res:Value)(c₀:Nat)(hst:St 0 s)(hSf:S∉fp)(hI:I∈fp)
  (hS:s.heap.get? S=some { cls:=.type "list",data:=.seq #[] c₀ })
  (hR:∀s' acc' c',Moved (S::wr) G s s'->s'.heap.get? S=some { cls:=.type "list",dict:=none,data:=.seq acc' c',slots:=#[] }->ItemsOf P acc' n->R (.ok (.ret res)) s') (hn:n≤sizeLine:=by size_fits):
  wpAny (model prog w) A.in1 (Builtin.List.listExtendWith (.ref S) (.ref I) res)
   (fun fin s'=>match fin with | .done f=>R (.ok f) s' | .again c'=>c'.quiet=true∧codeAny (model prog w) A c' R s') (fun e s'=>R (.error e) s') s:=by
 have hSI:S≠I:=fun e=>hSf (e ▸ hI)
 unfold Builtin.List.listExtendWith
 refine wpAny_bind (wpAny_typeOf (hT 0 _ hst) ?_)
 have h1:Builtin.List.listSameRef (.ref S) (.ref I)=false:=by simp[Builtin.List.listSameRef,hSI]
 have h2:(Value.type "list_reverseiterator" == Value.type "list")=false:=by decide
 have h3:(Value.type "list_reverseiterator" == Value.type "tuple")=false:=by decide
 simp only[h1,h2,h3,eK,bF,if_false]
 refine wpAny_bind (W.self 0 _ _ _ hst ?_)
 refine wpAny_bind (wpAny_holding ?_)
 unfold Builtin.List.listLengthHint
 refine wpAny_bind (wpAny_specialOf (hT 0 _ hst) y6a ?_)
 show wpAny _ A.in1 (specialOf (Value.ref I) (Str.ofString "__length_hint__") >>= _) _ _ _
 refine wpAny_bind (wpAny_specialOf (hT 0 _ hst) x1I ?_)
 generalize hid:("list_reverseiterator.__length_hint__" : String)=id0
 wp_delta
 rw[show splitId id0=some ("list_reverseiterator", "__length_hint__") from by subst hid;decide +kernel]
 subst hid
 refine wpAny_bind (wpAny_isInstance (T := "list_reverseiterator") (b:=true) (hT 0 _ hst) (by rw[isSubtype_type];kernel_rfl) ?_)
 refine wpAny_ite_split (fun hab=>absurd hab nofun) (fun _=>?_)
 refine wpAny_ite_split (fun _=>?_) (fun hab=>absurd (by decide +kernel) hab)
 refine wpAny_ite_split (fun hab=>absurd hab (by decide +kernel)) (fun _=>?_)
 refine wpAny_pure ?_
 refine wpAny_ite_split (fun hab=>absurd hab (by decide +kernel)) (fun _=>?_)
 refine wpAny_pure ⟨plainId_quiet F.plain_extend_loop _,codeAny_extend_loopS W hn _ hSf _ n 0 _ _ _ rfl (bn _) hst hS (ItemsOf.nil P) fun s' acc' c' hm hS' hacc=>?_⟩
 exact hR s' acc' c' hm hS' hacc
theorem z5p(W:WalksS prog w A.in1 I fp wr G n P St)(hT:∀i s,St i s->s.TypeIs (.ref I) "list_reverseiterator")(S:Addr)(hst:St 0 s)(hSf:S∉fp)(hI:I∈fp)
  (hS:s.heap.get? S=some { cls:=.type "list",data:=.seq #[] })
  (hR:∀s' acc' c',Moved (S::wr) G s s'->s'.heap.get? S=some { cls:=.type "list",dict:=none,data:=.seq acc' c',slots:=#[] }->ItemsOf P acc' n->R (.ok (.ret .none)) s') (hn:n≤sizeLine:=by size_fits):
  wpAny (model prog w) A.in1 (Builtin.«list.__init__» ⟨[.ref S,.ref I],[]⟩)
   (fun fin s'=>match fin with | .done f=>R (.ok f) s' | .again c'=>c'.quiet=true∧codeAny (model prog w) A c' R s') (fun e s'=>R (.error e) s') s:=by
 show wpAny _ A.in1 (do let old ←Builtin.List.listItems (.ref S);Builtin.List.listUpdate (.ref S) (fun _=>#[]);letGo old.toList.reverse;Builtin.List.listExtendWith (.ref S) (.ref I) .none) _ _ s
 refine wpAny_bind ?_
 unfold Builtin.List.listItems
 refine wpAny_bind (wpAny_seqItems hS rfl (wpAny_pure ?_))
 show wpAny _ A.in1 (updateSeq S (fun _=>#[]) >>= fun _=>letGo (#[]:Array Value).toList.reverse >>= fun _=>Builtin.List.listExtendWith (.ref S) (.ref I) .none) _ _ s
 refine wpAny_bind (wpAny_updateSeq hS rfl ?_)
 have hS₂:=Heap.get?_update_self (Obj.mapSeq (fun _=>(#[]:Array Value))) hS rfl
 have oth:∀b o,b≠S->s.heap.get? b=some o->(s.heap.update S (Obj.mapSeq (fun _=>(#[]:Array Value)))).get? b=some o:=
  fun b o hb e=>(Heap.get?_update_other _ _ (Ne.symm hb)).trans e
 refine wpAny_bind (wpAny_letGo ?_)
 refine z6R (hn:=hn) W hT S .none _ (W.frame 0 s _ s.toks hst (ar _) fun b hb o e=>oth b o (fun h=>hSf (h ▸ hb)) e) hSf hI hS₂ fun s' acc' c' hm hS' hacc=>?_
 exact hR s' acc' c' (Moved.trans W.gtrans ((Moved.refl W.grefl).then_heap (ar _) fun b o hb e=>oth b o (fun h=>hb (h ▸ ac)) e) hm) hS' hacc
end
section
variable{prog:fw}{w:fx}{A:Around}{E:Value->dw->Prop}{s:dw}
theorem z9A{Q:Value->dw->Prop}{l I:Addr}{its:List Value}(hh:A.handled=none)(hne:l≠I)(hit:s.heap.IsRevIter I l ((its.length:Int) - 1))(hl:s.heap.IsList l its.toArray)(hI:I<s.heap.objs.size)(hn:its.length≤sizeLine)
  (hQ:∀h' tk c',(∀b o,b≠I->s.heap.get? b=some o->h'.get? b=some o)->h'.get? s.heap.objs.size=some { cls:=.type "list",dict:=none,data:=.seq its.reverse.toArray c',slots:=#[] }->Q (.ref s.heap.objs.size) { s with heap:=h',toks:=tk }):
  wpAny (model prog w) A (call (.type "list") [.ref I]) Q E s:=by
 have W:=(Walks.listRev (prog:=prog) (w:=w) (A:=A.in1.in1) hh I l hne its.toArray).toS
 have hll:l<s.heap.objs.size:=by obtain⟨o,e,_⟩:=hl;exact Heap.lt_size e
 have hSf:s.heap.objs.size∉[I,l]:=fun hm=>by
  rcases ai.mp hm with e | e
  ·exact bw _ (e ▸ hI)
  ·exact bw _ ((ag.mp e) ▸ hll)
 have hlen:its.toArray.size=its.length:=by simp
 refine callType_codes (Q₁:=fun obj s₁=>obj = .ref s.heap.objs.size∧s₁ = { s with heap:=s.heap.push { cls:=.type "list",data:=.seq #[] } }) F.called_list (F.typeCall_list_1 _) F.entry_list_init
  (code_list_new _ ⟨rfl,rfl⟩) fun obj s₁ h₁=>?_
 obtain⟨rfl,rfl⟩:=h₁
 have hS:(s.heap.push { cls:=.type "list",data:=.seq #[] }).get? s.heap.objs.size=some { cls:=.type "list",data:=.seq #[] }:=Heap.get?_push_size _ rfl
 refine⟨⟨_,hS,rfl⟩,F.args_list_init_2 _ _,z5p (hn:=by rw[hlen];exact hn) W (fun i s x=>x.2.1.typeIs) _ ⟨bn _,?_,hl.at fun o e=>Heap.get?_push_of_some _ e⟩ hSf (ac ..) hS fun s' acc' c' hm hS' hacc=>?_⟩
 ·have e:((its.toArray.size:Nat):Int) - 1 - ((0:Nat):Int)=(its.length:Int) - 1:=by rw[hlen];omega
  rw[e]
  exact hit.at fun o e=>Heap.get?_push_of_some _ e
 ·have ea:acc'=its.reverse.toArray:=by
   obtain⟨h1,h2⟩:=hacc
   apply fg
   intro i
   by_cases hi:i<acc'.size
   ·have h3:=h2 i acc'[i] (cK hi)
    have hi':i<its.length:=by rw[←hlen,←h1];exact hi
    rw[cK hi,c6,eV hi',←h3,hlen,c6]
   ·rw[Array.getElem?_eq_none ⋯,c6,cv (by rw[b8];omega)]
  subst ea
  rw[Moved.eq_with hm]
  exact⟨rfl,hQ s'.heap s'.toks c' (fun b o hb e=>hm.heap b o (fun hmem=>by
   rcases ai.mp hmem with e' | hmem
   ·exact absurd (Heap.lt_size e) (by rw[e'];exact bw _)
   ·exact hb (ag.mp hmem)) (Heap.get?_push_of_some _ e)) hS'⟩
end
section
variable{X:Cx}
theorem x0K{xs:List V}{us:List Value}(h:Vals xs us):Vals xs.reverse us.reverse:=by
 induction h with
 |nil=>exact .nil
 |cons r _ ih=>
  rw[ci,ci]
  exact ih.append (.cons r .nil)
def tRevO(K:aa)(te:TE):TE:=fun σ H Q=>te σ H fun x H1=>∃p ys,x = .ref p∧SqL K H1 p ys∧∀l,H1 l=none->Q (.ref l) (upd H1 l (.lst ys.reverse))
theorem y5o{e:Expr}{te:TE}{p p2 pos pos2:Pos}(hc:X.calm=true)(hg:Gl X "list")(hm:X.mg "list" = none)(hg2:Gl X "reversed")(hm2:X.mg "reversed" = none)(h:PE X e te)(he2:starEach [e] X.env=[(false,eval e X.env)])
  (he:starEach [.Call (.Name "reversed" p2) [e] [] pos2] X.env=[(false,eval (.Call (.Name "reversed" p2) [e] [] pos2) X.env)]):PE X (.Call (.Name "list" p) [.Call (.Name "reversed" p2) [e] [] pos2] [] pos) (tRevO X.K te):=by
 intro pins s σ H Q I hq
 refine wpAny_Call_Name_kw (z3Y I hg hm PyProof.Rows.Boot.«list» (PyProof.Rows.callWith_type1 ?_ he rfl) nofun nofun)
 rw[he]
 show wpAny _ _ (spliced [(false,eval (.Call (.Name "reversed" p2) [e] [] pos2) X.env)]) _ _ s
 refine Calls.spliced_cons ?_
 refine wpAny_Call_Name_kw (z3Y I hg2 hm2 boot_reversed (PyProof.Rows.callWith_type1 (thn ((z1e h pa_nil he2) pos2 pins s σ H (fun vs H1=>match vs with
  |[x]=>∃p ys,x = .ref p∧SqL X.K H1 p ys∧∀l,H1 l=none->Q (.ref l) (upd H1 l (.lst ys.reverse))
  |_=>False) I hq) fun us s1 ⟨vs,H1,I1,r1,q1⟩=>?_) he2 rfl) nofun nofun)
 cases r1 with
 |nil=>exact q1.elim
 |cons rx rr=>
  cases rr with
  |cons _ _=>exact q1.elim
  |nil=>
   obtain⟨a,ys,rfl,hs,k⟩:=q1
   cases rx
   obtain⟨its,rv,pl,hz⟩:=I1.list hs
   have hl:=pl.isList
   have hlen:=rv.length
   refine call_reversed_list hl ?_
   have eI:(its.toArray.size:Int) - 1=(its.length:Int) - 1:=by simp
   rw[eI]
   have I2:Inv X pins σ H1 { s1 with heap:=s1.heap.push (revObj a ((its.length:Int) - 1)) }:=I1.kept (t':=s1.toks) fun b o e=>Heap.get?_push_of_some _ e
   refine Calls.spliced_nil ?_
   have al:a<s1.heap.objs.size:=by obtain⟨o,e,_⟩:=hl;exact Heap.lt_size e
   refine z9A (l:=a) (its:=its) (I2.ok.hd hc) (aE al) ⟨_,Heap.get?_push_size _ rfl,rfl,rfl⟩ (hl.at fun o e=>Heap.get?_push_of_some _ e) (by rw[size_push'];exact dW _) ⋯ fun h' tk c' kp e=>?_
   obtain⟨f0,f1,f2,f3,f4,f5⟩:=I1.fpOk (b:=s1.heap.objs.size) (ar _) (I1.hok.fresh (ar _))
   have I3:Inv X pins σ (upd H1 (s1.heap.push (revObj a ((its.length:Int) - 1))).objs.size (.lst ys.reverse)) { s1 with heap:=(s1.heap.push (revObj a ((its.length:Int) - 1))).push { cls:=.type "list",dict:=none,data:=.seq its.reverse.toArray c',slots:=#[] } }:=
    I2.laid (t':=s1.toks) (fun b o e=>Heap.get?_push_of_some _ e) (ar _) (show ObjOk X.prog X.w _ _ _ (.lst ys.reverse) from⟨by rw[b8];exact hz,its.reverse,c',x0K rv,Heap.get?_push_size _ rfl⟩)
   have hne:(s1.heap.push (revObj a ((its.length:Int) - 1))).objs.size≠s1.heap.objs.size:=by rw[size_push'];exact Nat.succ_ne_self _
   have I4:=I3.turned (h':=h') (t':=tk) (it:=s1.heap.objs.size) (fun b o hb eb=>by
    rcases Heap.get?_push_cases eb with⟨rfl,rfl⟩ | eb
    ·exact e
    ·exact kp b o hb eb) (by unfold upd;rw[if_neg (Ne.symm hne)];exact f0) f1 f3 f4 f5
   exact⟨.ref _,_,I4,rfl,k _ (I2.hok.fresh (ar _))⟩
def revF:List D->Option (List D)
 |[.lst ds]=>some ds.reverse
 |_=>none
theorem y3R{K:aa}{H:Hp}{B:Addr->Prop}:∀{ds:List D} {xs:List V},Reps K H B ds xs->Reps K H B ds.reverse xs.reverse
 |[],xs,h=>by
  unfold Reps at h
  subst h
  exact .nil
 |d::ds,xs,h=>by
  unfold Reps at h
  obtain⟨x,r,rfl,rx,rr⟩:=h
  rw[ci,ci]
  exact(y3R rr).append (.cons rx .nil)
theorem y5x{e:Expr}{f:DE}{p p2 pos pos2:Pos}(hc:X.calm=true)(hg:Gl X "list")(hm:X.mg "list" = none)(hg2:Gl X "reversed")(hm2:X.mg "reversed" = none)(h:PD X e f)(he2:starEach [e] X.env=[(false,eval e X.env)]:=by rfl)
  (he:starEach [.Call (.Name "reversed" p2) [e] [] pos2] X.env=[(false,eval (.Call (.Name "reversed" p2) [e] [] pos2) X.env)]:=by rfl):PF X (.Call (.Name "list" p) [.Call (.Name "reversed" p2) [e] [] pos2] [] pos) (z1z revF [f]):=
 (y5o hc hg hm hg2 hm2 h he2 he).imp fun σ H Q ⟨B,δ,ds,hB,S,q,k⟩=>by
  unfold z1z z0j z0j at q
  cases e1:f δ with
  |none=>rw[e1]at q;cases q
  |some d=>
  rw[e1]at q
  have q:revF [d]=some ds:=q
  unfold revF at q
  split at q
  ·rename_i es z
   cases z
   cases q
   refine⟨B,δ,_,hB,S,e1,fun v H1 s1 r1=>?_⟩
   unfold Rep at r1
   obtain⟨a,xs,rfl,_,ha,rs⟩:=r1
   exact⟨a,xs,rfl,SqL.of ha,fun l hl=>k l _ _ (s1.trans (z0s hl)) (s1.free hl) z0r ((y3R rs).mono (z0s hl))⟩
  ·cases q
end
def Thr(h:Heap)(e T:Addr)(cls:Value):Prop:=∃oe vs oT ts,h.get? e=some oe∧oe.cls=cls∧oe.data = .fields vs∧vs[1]? = some (.ref T)∧T≠e∧h.get? T=some oT∧oT.data = .fields ts∧ts[3]? = some .none∧oe.dict=none
def Thr0(h:Heap)(e:Addr)(cls:Value):Prop:=∃oe vs,h.get? e=some oe∧oe.cls=cls∧oe.data = .fields vs∧vs[1]? = some .none∧oe.dict=none
structure Gone(S ch:List Addr)(e:Addr)(cls:Value)(h h':Heap):Prop where
 keep:∀b o,b∉S->b∉ch->h.get? b=some o->h'.get? b=some o
 slot:∀b o,b∈S->b∉ch->h.get? b=some o->∃sl,h'.get? b=some { o with slots:=sl }
 there:∀b o,h.get? b=some o->∃o',h'.get? b=some o'
 thr:∃T,h.objs.size≤T∧Thr h' e T cls
section
variable{M:Model}{A:Around}{E:Value->dw->Prop}{s:dw}
theorem y3T{o:Obj}{f:Array Value->Array Value}(h:o.dict=none):(Obj.mapFields f o).dict=none:=by
 unfold Obj.mapFields
 split <;> exact h
theorem z9s{base:Heap}{env:Env}{outer:List Env}{L e:Addr}{oe:Obj}{vs:Array Value}{head:Value}{hadNext:Bool}{Q:Unit->dw->Prop}
  (hfr:A.frames=some (env::outer)) (hl:s.heap.FunFrames base (env::outer)) (hf:env.frame=some L)
  (he:s.heap.get? e=some oe) (hd:oe.data = .fields vs) (hsz:1<vs.size) (hdn:oe.dict=none)
  (h:∀h',Gone (frs (env::outer)) [e] e oe.cls s.heap h'->Q () { s with heap:=h' }):
  wpAny M A (do let a ←frameOf env;let pl ←entryPlaceOf L hadNext;let b ←EntryCells.newEntry head a .none (rawInt L) .none pl;setField (.ref e) 1 b) (fun _ s'=>wpAny M A (setFlight (.ref e) none) Q E s') E s:=by
 have hene:e∉frs (env::outer):=fun hm=>by
  obtain⟨_,o,ho,hnf⟩:=hl.mem hm
  rw[he]at ho;injection ho with ho;subst ho;exact hnf vs hd
 refine wpAny_bind (wpAny_frameOf_fun hfr hl hf fun h₁ hs₁=>?_)
 refine wpAny_bind (wpAny_entryPlaceOf fun pl hpl=>?_)
 unfold EntryCells.newEntry newFields
 refine wpAny_bind (wpAny_newObj_type ?_ (hpl.sizeOk5 _ _ _ _ _))
 have he₁:h₁.get? e=some oe:=(hs₁.2.1 e hene).trans he
 generalize hob:({ cls:=.type "traceback",dict:=none,data:=.fields ([head,.ref L,.none,rawInt L,.none]++(if pl.isEmpty then ad 6 Value.none else pl)).toArray }:Obj)=ob
 have hobd:ob.data = .fields ([head,.ref L,.none,rawInt L,.none]++(if pl.isEmpty then ad 6 Value.none else pl)).toArray:=by rw[←hob]
 have hobf:ob.isFreed=false:=by rw[←hob];rfl
 have he₂:=Heap.get?_push_of_some (h:=h₁) ob he₁
 refine wpAny_setField he₂ hd hsz ?_
 have hTe:h₁.objs.size≠e:=b7 (Heap.lt_size he₁)
 have hd₃:=Obj.data_mapFields hd (·.setIfInBounds 1 (Value.ref h₁.objs.size))
 have he₃:=Heap.get?_update_self (Obj.mapFields (·.setIfInBounds 1 (Value.ref h₁.objs.size))) he₂ (Obj.isFreed_of_fields hd₃)
 have hT₃:=(Heap.get?_update_other (h₁.push ob) (Obj.mapFields (·.setIfInBounds 1 (Value.ref h₁.objs.size))) (Ne.symm hTe)).trans (Heap.get?_push_size h₁ hobf)
 unfold setFlight
 refine wpAny_bind (wpAny_field he₃ hd₃ (x:=.ref h₁.objs.size) (by simp[hsz]) ?_)
 rw[if_pos (show(Value.ref h₁.objs.size != Value.none)=true from by simp)]
 refine wpAny_setField hT₃ hobd (by simp only[ay,aB,bc,dZ] <;> omega) (h _ ?_)
 have keep:∀b o,b≠e->h₁.get? b=some o →
   (((h₁.push ob).update e (Obj.mapFields (·.setIfInBounds 1 (Value.ref h₁.objs.size)))).update h₁.objs.size (Obj.mapFields (·.setIfInBounds 3 ((none:Option Addr).elim Value.none fun f=>rawInt f)))).get? b=some o:=fun b o hbe hb=>by
  have hbT:h₁.objs.size≠b:=b7 (Heap.lt_size hb)
  rw[Heap.get?_update_other _ _ hbT,Heap.get?_update_other _ _ (Ne.symm hbe)]
  exact Heap.get?_push_of_some _ hb
 have heF:(((h₁.push ob).update e (Obj.mapFields (·.setIfInBounds 1 (Value.ref h₁.objs.size)))).update h₁.objs.size (Obj.mapFields (·.setIfInBounds 3 ((none:Option Addr).elim Value.none fun f=>rawInt f)))).get? e=some (Obj.mapFields (·.setIfInBounds 1 (Value.ref h₁.objs.size)) oe):=by
  rw[Heap.get?_update_other _ _ hTe];exact he₃
 refine⟨fun b o hb hc e1=>?_,fun b o hb hc e1=>?_,fun b o e1=>?_,h₁.objs.size,?_,?_⟩
 ·exact keep b o (fun z=>hc (by simp[z])) ((hs₁.2.1 b hb).trans e1)
 ·obtain⟨sl,e2⟩:=hs₁.2.2 b o e1
  exact⟨sl,keep b _ (fun z=>hc (by simp[z])) e2⟩
 ·by_cases hb:b=e
  ·exact⟨Obj.mapFields (·.setIfInBounds 1 (Value.ref h₁.objs.size)) oe,by rw[hb];exact heF⟩
  ·obtain⟨sl,e2⟩:=hs₁.2.2 b o e1
   exact⟨_,keep b _ hb e2⟩
 ·rw[hs₁.1]
  exact ar _
 ·exact⟨_,_,_,_,heF,Obj.cls_mapFields _ _,hd₃,by simp[hsz],hTe,Heap.get?_update_self _ hT₃ (Obj.isFreed_of_fields (Obj.data_mapFields hobd _)),Obj.data_mapFields hobd _,by first | (simp;done) | (rcases hpl with rfl | ⟨_,_,_,_,_,_,_,rfl⟩ <;> simp),y3T hdn⟩
theorem y6b{base:Heap}{env:Env}{outer:List Env}{L e:Addr}{cls:Value}{Q:Unit->dw->Prop}
  (hfr:A.frames=some (env::outer)) (hl:s.heap.FunFrames base (env::outer)) (hf:env.frame=some L) (ht:Thr0 s.heap e cls)
  (h:∀h',Gone (frs (env::outer)) [e] e cls s.heap h'->Q () { s with heap:=h' }):wpAny M A (noteFrame (.ref e) env) (fun _ s'=>wpAny M A (setFlight (.ref e) none) Q E s') E s:=by
 obtain⟨oe,vs,he,rfl,hd,h1,hdn⟩:=ht
 unfold noteFrame
 simp only[hf]
 refine wpAny_bind (wpAny_field he hd h1 ?_)
 rw[if_neg nofun]
 exact z9s hfr hl hf he hd (aU.mp h1).1 hdn h
theorem y1Y{base:Heap}{env:Env}{outer:List Env}{L e T:Addr}{cls:Value}{Q:Unit->dw->Prop}
  (hfr:A.frames=some (env::outer)) (hl:s.heap.FunFrames base (env::outer)) (hf:env.frame=some L) (ht:Thr s.heap e T cls)
  (h:∀h',Gone (frs (env::outer)) [e,T] e cls s.heap h'->Q () { s with heap:=h' }):wpAny M A (noteFrame (.ref e) env) (fun _ s'=>wpAny M A (setFlight (.ref e) none) Q E s') E s:=by
 obtain⟨oe,vs,oT,ts,he,rfl,hd,h1,hTe,hT,hdT,h3,hdn⟩:=ht
 unfold noteFrame
 simp only[hf]
 refine wpAny_bind (wpAny_field he hd h1 ?_)
 rw[if_pos (show(Value.ref T != Value.none)=true from by simp)]
 refine wpAny_bind (wpAny_field hT hdT h3 ?_)
 rw[if_neg (show ¬ ((Value.none==rawInt L)=true) from by simp[rawInt])]
 refine wpAny_bind (wpAny_setField hT hdT (aU.mp h3).1 ?_)
 have other:∀b,b≠T->(s.heap.update T (Obj.mapFields (·.setIfInBounds 3 Value.none))).get? b=s.heap.get? b:=fun b hb=>Heap.get?_update_other _ _ (Ne.symm hb)
 have noRecord:∀b o,s.heap.get? b=some o->(∀vs,o.data≠.fields vs)->b≠T:=fun b o hb hnf q=>by
  rw[q,hT]at hb;injection hb with hb;subst hb;exact hnf ts hdT
 refine z9s hfr (hl.of_keeps fun b o hb hnf=>⟨o,(other b (noRecord b o hb hnf)).trans hb,rfl⟩) hf ((other e (Ne.symm hTe)).trans he) hd (aU.mp h1).1 hdn fun h' G=>h h' ?_
 refine⟨fun b o hb hc e1=>G.keep b o hb (fun z=>hc (ai.mpr (.inl (ag.mp z)))) ((other b fun z=>hc (by simp[z])).trans e1),fun b o hb hc e1=>G.slot b o hb (fun z=>hc (ai.mpr (.inl (ag.mp z)))) ((other b fun z=>hc (by simp[z])).trans e1),fun b o e1=>?_,?_⟩
 ·by_cases hb:b=T
  ·have e2:(s.heap.update T (Obj.mapFields (·.setIfInBounds 3 Value.none))).get? b=some (Obj.mapFields (·.setIfInBounds 3 Value.none) oT):=by
    rw[hb]
    exact Heap.get?_update_self _ hT (Obj.isFreed_of_fields (Obj.data_mapFields hdT _))
   exact G.there b _ e2
  ·exact G.there b o ((other b hb).trans e1)
 ·obtain⟨T',h1,h2⟩:=G.thr
  exact⟨T',by rwa [Heap.size_after_update]at h1,h2⟩
theorem z6t{env:Env}{e:Value}{Q:Unit->dw->Prop}(h:wpAny M A (noteFrame e env) (fun _ s'=>wpAny M A (setFlight e none) Q E s') E s):wpAny M A (leaving env e) Q E s:=by
 unfold leaving
 exact wpAny_bind h
end
theorem ObjOk.some{P:fw}{w:fx}{H:Hp}{h:Heap}{a:Addr}{o:HO}(x:ObjOk P w H h a o):∃ob,h.get? a=Option.some ob:=by
 cases q:h.get? a with
 |some ob=>exact⟨ob,rfl⟩
 |none=>
  have y:ObjOk P w H h a o:=x
  induction o with
  |lst xs=>obtain⟨_,_,_,_,e⟩:=x;rw[q]at e;cases e
  |tup xs=>obtain⟨_,_,_,_,e,_⟩:=x;rw[q]at e;cases e
  |dK kvs=>obtain⟨_,_,_,_,_,_,_,e,_⟩:=x;rw[q]at e;cases e
  |dT kvs=>obtain⟨_,_,_,_,_,_,_,e,_⟩:=x;rw[q]at e;cases e
  |set S n=>obtain⟨_,_,_,_,e,_⟩:=x;rw[q]at e;cases e
  |ins C dx fs=>obtain⟨_,_,_,e,_⟩:=x;rw[q]at e;cases e
  |own y=>obtain⟨_,e⟩:=x;rw[q]at e;cases e
  |xd fs=>obtain⟨_,⟨_,_,_,e,_⟩,_⟩:=x;rw[q]at e;cases e
  |met f y=>have e:=x;unfold ObjOk at e;rw[q]at e;cases e
  |rng lo hi=>obtain⟨_,_,_,e⟩:=x;rw[q]at e;cases e
  |frz ob u ih=>have e:=x.1;rw[q]at e;cases e
  |tbl ps=>have e:=x;unfold ObjOk at e;rw[q]at e;cases e
  |ext φ=>obtain⟨_,⟨_,e⟩,_⟩:=x;rw[q]at e;cases e
section
variable{X:Cx}{pins:AO}{σ:St}{H:Hp}{s:dw}
def FpX(X:Cx)(pins:AO)(H:Hp)(b:Addr):Prop:=
 H b=none∧b≠X.env.locals∧(b∈X.ex∨X.s₀.heap.get? b=none)∧(∀x c,X.env.cells.lookup x=some c->c≠b)∧∀p∈X.pn++pins,p.1≠b
theorem Inv.fpX{H':Hp}{b:Addr}(I:Inv X pins σ H s)(hb:s.heap.get? b=none)(hn:H' b=none):FpX X pins H' b:=by
 refine⟨hn,fun z=>?_,?_,fun x c e z=>?_,fun p hp z=>?_⟩
 ·obtain⟨m,⟨o,_,_,ho,_⟩,_⟩:=I.loc
  rw[←z,hb]at ho
  cases ho
 ·by_cases hx:b∈X.ex
  ·exact .inl hx
  ·refine .inr ?_
   cases q:X.s₀.heap.get? b with
   |none=>rfl
   |some o=>
    obtain⟨o',e⟩:=I.base.there b o q hx
    rw[hb]at e
    cases e
 ·obtain⟨v,o,ho,_⟩:=I.cell x c e
  rw[z,hb]at ho
  cases ho
 ·have:=(I.pin p hp).1
  rw[z,hb]at this
  cases this
theorem Inv.fresh0{b:Addr}(I:Inv X pins σ H s)(hb:s.heap.get? b=none):H b=none:=by
 cases q:H b with
 |none=>rfl
 |some u=>
  obtain⟨o,e⟩:=(I.hok b u q).some
  rw[hb]at e
  cases e
theorem Inv.gone3{ch:List Addr}{h':Heap}(I:Inv X pins σ H s)(gk:∀b o,b∉frs X.stack->b∉ch->s.heap.get? b=some o->h'.get? b=some o)(gs:∀b o,b∈frs X.stack->b∉ch->s.heap.get? b=some o->∃sl,h'.get? b=some { o with slots:=sl })(gt:∀b o,s.heap.get? b=some o->∃o',h'.get? b=some o')(hch:∀b∈ch,FpX X pins H b):Inv X pins σ H { s with heap:=h' }:=by
 have nS:∀b u,H b=some u->b∉frs X.stack:=fun b u q z=>by rw[I.stkFree b z]at q;cases q
 have nC:∀b u,H b=some u->b∉ch:=fun b u q z=>by rw[(hch b z).1]at q;cases q
 have hok:HOk X.prog X.w H h':=fun b u q=>(I.hok b u q).stay (fun c v hc e=>by
  rcases hc with rfl | z
  ·exact gk _ v (nS _ u q) (nC _ u q) e
  ·exact gk c v (nS c _ z) (nC c _ z) e) (fun _ q=>q) fun _ _ q=>q
 have any:∀b o,b∉ch->s.heap.get? b=some o->∃sl,h'.get? b=some { o with slots:=sl }:=fun b o hc q=>by
  by_cases hb:b∈frs X.stack
  ·exact gs b o hb hc q
  ·exact⟨o.slots,gk b o hb hc q⟩
 have new:∀b o,X.s₀.heap.get? b=some o->b∉X.ex->b∉ch:=fun b o q hx z=>by
  rcases (hch b z).2.2.1 with y | y
  ·exact hx y
  ·rw[y]at q;cases q
 have kp:∀b o,b≠X.env.locals->b∉X.fs->b∉ch->s.heap.get? b=some o->h'.get? b=some o:=fun b o hL hb hc q=>
  gk b o (fun z=>(ai.mp (I.stkSub b z)).elim hL hb) hc q
 have old:∀b o,X.s₀.heap.get? b=some o->b≠X.env.locals:=fun b o q=>aE (aK (Heap.lt_size q) I.ok.above)
 have cellK:∀x c,X.env.cells.lookup x=some c->∀v,s.heap.IsCell c v->h'.IsCell c v:=fun x c q v ⟨o,ho,hd⟩=>by
  obtain⟨sl,y⟩:=any c o (fun z=>(hch c z).2.2.2.1 x c q rfl) ho
  exact⟨_,y,hd⟩
 refine⟨I.ok,I.os,I.bare,⟨?_,?_,fun b o q n hx=>I.base.free b o q n hx,?_,I.base.tups,I.base.frzs,I.base.tbls⟩,?_,?_,I.free,I.freeC,?_,hok,I.len⟩
 ·exact fun b o q n hb hx=>kp b o (old b o q) hb (new b o q hx) (I.base.keep b o q n hb hx)
 ·intro b o q n hb hx
  obtain⟨sl,q1⟩:=I.base.slot b o q n hb hx
  obtain⟨sl',q2⟩:=any b _ (new b o q hx) q1
  exact⟨sl',q2⟩
 ·intro b o q hx
  obtain⟨o',q1⟩:=I.base.there b o q hx
  exact gt b o' q1
 ·obtain⟨m,⟨o,es,ep,ho,r⟩,hl⟩:=I.loc
  obtain⟨sl,hL⟩:=any _ o (fun z=>(hch _ z).2.1 rfl) ho
  refine⟨m,⟨_,es,ep,hL,r⟩,fun i x v e1 e2 e3=>?_⟩
  obtain⟨u,r,l⟩:=hl i x v e1 e2 e3
  exact⟨u,r,l.imp id fun⟨k,c,q,z⟩=>⟨k,c,q,cellK x c q _ z⟩⟩
 ·intro x c q
  obtain⟨v,z⟩:=I.cell x c q
  exact⟨v,cellK x c q v z⟩
 ·intro p hp
  obtain⟨q,n,ne,nf,d⟩:=I.pin p hp
  exact⟨kp p.1 p.2 ne nf (fun z=>(hch p.1 z).2.2.2.2 p hp rfl) q,n,ne,nf,d⟩
theorem Inv.gone{ch:List Addr}{e:Addr}{cls:Value}{h':Heap}(I:Inv X pins σ H s)(G:Gone (frs X.stack) ch e cls s.heap h')(hch:∀b∈ch,FpX X pins H b):Inv X pins σ H { s with heap:=h' }:=I.gone3 G.keep G.slot G.there hch
end
def CXE(P:fw)(w:fx):CXT:=fun outer H s E e s'=>∃(ea T:Addr) (cls:Value) (H':Hp),e = .ref ea∧s'.os=s.os∧AllBare s'.gens∧Un (frs outer) [] H H' s.heap s'.heap∧HOk P w H' s'.heap ∧
 s.heap.get? ea=none∧s.heap.get? T=none∧H' ea=none∧H' T=none∧Thr s'.heap ea T cls∧E cls none H'
section
variable{P:fw}{w:fx}{K:aa}{mg:Str->Option Value}{base:Heap}{N:List Str}{qual:Str}{scope:fI}{f:Addr}{cd:Value}{A:Around}{outer:List Env}{s:dw}{H:Hp}{E:XK}
theorem y9H{pins:AO}{σ:St}{H1:Hp}{s1:dw}{e:Addr}{cls:Value}(I:Inv (z8p (CXE P w) P w K mg base N qual scope f cd A outer s H E) pins σ H1 s1)
  (hf:FpX (z8p (CXE P w) P w K mg base N qual scope f cd A outer s H E) pins H1 e) (ht:Thr0 s1.heap e cls) (hE:E cls none H1):(z8p (CXE P w) P w K mg base N qual scope f cd A outer s H E).xe (.ref e) s1:=by
 refine z6t (y6b (base:=base) (outer:=outer) I.ok.frames I.stack rfl ht fun h' G=>?_)
 have I':=I.gone G fun b hb=>by rw[ag.mp hb];exact hf
 obtain⟨T,hT,th⟩:=G.thr
 have he:s.heap.get? e=none:=by
  rcases hf.2.2.1 with z | z
  ·exact absurd (show e∈([]:List Addr) from z) (by simp)
  ·exact z
 exact⟨e,T,cls,H1,rfl,I'.os,I'.bare,I'.base,I'.hok,he,Heap.get?_none_of_le (aI I.sz hT),hf.1,I.hok.fresh hT,th,hE⟩
end
section
variable{X:Cx}{x:Str}{C:Addr}{B Bn newId nid initId inN:String}{bm bmN:List Value}{np cpos pos:Pos}{e₀:Expr}{te:TE}
def tRaise(te:TE)(R:St->Hp->Prop):TS:=fun _ σ H=>te σ H fun _ H1=>R σ H1
def Want(X:Cx)(C:Addr)(R:St->Hp->Prop):Prop:=∀(pins:AO) (σ:St) (H:Hp) (s:dw) (e:Addr),Inv X pins σ H s->FpX X pins H e->Thr0 s.heap e (.ref C)->R σ H->X.xe (.ref e) s
theorem x1i{R:St->Hp->Prop}(hc:X.calm=true)(hg:Gl X x)(O:OwnCls x C bm newId X.mg X.base)(Fn:ExcBaseFacts Bn newId inN bmN)(hBn:bm.contains (.type Bn)=true)(FB:ExcBaseFacts B nid initId bm)(hW:Want X C R)(h:PE X e₀ te)
  (he:starEach [e₀] X.env=[(false,eval e₀ X.env)]:=by rfl) (hd:(x==("__debug__" : Str))=false:=by decide):PS X (.Raise (some (.Call (.Name x np) [e₀] [] cpos)) none pos) (tRaise te R):=by
 intro pins s σ H D I hq
 obtain⟨tl,N,nm,q,bs,hdct,sn,sub,ab,col,dd,k0,k1,k2,k3,k5,mN,hC,hN,hni,T⟩:=O.obj
 refine wpAny_Raise_call_subU (C:=C) (nm:=nm) (q:=q) (N:=N) (bs:=bs) (bm:=tl) (hdct:=hdct) (sn:=sn) (sub:=sub) (ab:=ab) (col:=col) (dd:=dd) (k0:=k0) (k1:=k1) (k2:=k2) (k3:=k3) (k5:=k5)
  Fn hBn FB (mN:=mN) (T.hasType FB.hasBase) (I.ok.hd hc) (by rw[he];rfl) hni (z7E I hg O.bound ⟨rfl,?_⟩ hd)
 have ha:=(z1e h pa_nil he) cpos pins s σ H (fun vs H1=>match vs with
  |[_]=>R σ H1
  |_=>False) I hq
 rw[he]at ha ⊢
 refine Calls.evalArgs_plain (thn ha fun us s2 ⟨vs,H2,I2,r2,q2⟩=>?_)
 cases r2 with
 |nil=>exact(show False from q2).elim
 |cons r r3=>
  cases r3 with
  |cons _ _=>exact(show False from q2).elim
  |nil=>
   refine⟨rfl,by show 1≤sizeLine;rw[sizeLine_eq];omega,I2.bk _ _ hC,hN.keeps I2.bk,T.keeps I2.bk,fun h' e hm=>?_⟩
   obtain⟨t,he',_⟩:=hm.there
   have I3:Inv X pins σ H2 { s2 with heap:=h' }:=I2.kept (t':=s2.toks) hm.keeps
   exact hW pins σ H2 _ e I3 (I2.fpX hm.new (I2.fresh0 hm.new)) ⟨_,_,he',rfl,rfl,rfl,rfl⟩ q2
variable{H0:Hp}{B0:Addr->Prop}{fr:Bool}{RX:XR}
def z6N(c:Nat)(f:DE):SS->Option Out:=fun δ=>(f (z0w δ)).map fun _=>.ex c δ
theorem s_raise{c:Nat}{f:DE}(hc:X.calm=true)(hg:Gl X x)(O:OwnCls x C bm newId X.mg X.base)(Fn:ExcBaseFacts Bn newId inN bmN)(hBn:bm.contains (.type Bn)=true)(FB:ExcBaseFacts B nid initId bm)(hW:Want X C (RX c))(h:PD X e₀ f)
  (he:starEach [e₀] X.env=[(false,eval e₀ X.env)]:=by rfl) (hd:(x==("__debug__" : Str))=false:=by decide):PS X (.Raise (some (.Call (.Name x np) [e₀] [] cpos)) none pos) (tS X.K H0 B0 fr RX (z6N c f)):=
 PS.imp (x1i hc hg O Fn hBn FB hW h he hd) fun D σ H ⟨δ,R,o,rs,q,k⟩=>by
  unfold z6N at q
  cases e:f (z0w δ)with
  |none=>rw[e]at q;cases q
  |some d=>
   rw[e]at q
   cases q
   exact⟨noB,z0w δ,d,.no,rs.all,e,fun v H1 s1 r1=>k σ H1 R (rs.mono s1) (.same s1)⟩
end
inductive XO where
 |val (d:D) | exc (c:Nat)
def spX(K:aa)(cl:Nat->Value)(m:List D->Option XO):Sp:=fun vs H Q E=>∃ds o,Reps K H noB ds vs∧m ds=some o∧(match o with
 |.val d=>∀v H' A,Same H H'->Tree K H' d v A->A.Nodup->(∀a∈A,H a=none)->Q v H'
 |.exc c=>∀H',Same H H'->E (cl c) none H')
def z9M(np nl:Nat)(g:SS->Option Out):List D->Option XO:=fun ds=>if ds.length=np then(match g (ds.map (fun d=>some (.sh d))++ad nl none)with
 |some (.rt d)=>some (.val d)
 |some (.nx _)=>some (.val .non)
 |some (.ex c _)=>some (.exc c)
 |_=>none)else none
theorem z6Z{np nl:Nat}{g:SS->Option Out}{ds:List D}{o:XO}(h:z9M np nl g ds=some o):ds.length=np:=by
 unfold z9M at h
 split at h
 ·assumption
 ·cases h
abbrev x2h(cl:Nat->Value)(E:XK):XR:=fun c _ H1=>E (cl c) none H1
section
variable{P:fw}{w:fx}{K:aa}{mg:Str->Option Value}{base:Heap}
theorem fnX{x qual:Str}{st:Stmt}{f:Addr}{fd:fy}{N ps:List Str}{k np nl:Nat}{g:SS->Option Out}{cl:Nat->Value}(F:Fun K x qual st f fd)(S:FnScope N ps (z0g st))(hnp:ps.length=np)(hN:N.length=np+nl)
  (hbody:∀(cdv:Value) (A:Around) (outer:List Env) (s:dw) (H:Hp) (E:XK),Room k (A.deeper (envOfC qual (z0g st) s.heap.objs.size f cdv)) →
   PSs (z8p (CXE P w) P w K mg base N qual (z0g st) f cdv A outer s H E) (z0X st) (tS K H noB true (x2h cl E) g)):FnOk P w K mg base (CXE P w) (k+1) f fd ps (spX K cl (z9M np nl g)):=by
 obtain⟨oc,od,kV,doc,pm,an,cdv,ct,osl,rfl,lk,hcd⟩:=F.ex
 refine fn_of lk hcd S (fun vs H Q E h=>?_) fun A outer s H vs Q E hr h=>?_
 ·obtain⟨ds,o,r,e,_⟩:=h
  rw[←r.length,z6Z e,hnp]
 ·obtain⟨ds,o,r,e,kk⟩:=h
  refine⟨_,hbody cdv A outer s H E hr,?_⟩
  have hl:=z6Z e
  unfold z9M at e
  rw[if_pos hl]at e
  have rs:=z5E (nl:=nl) .no r (N:=N) ⋯
  split at e
  ·rename_i d' eg
   cases e
   exact⟨_,_,_,rs,eg,fun v H' z _=>by
    obtain⟨A',t,nd,fr⟩:=z.2.1 rfl
    exact kk v H' A' z.1 t nd fr⟩
  ·rename_i δ' eg
   cases e
   exact⟨_,_,_,rs,eg,fun σ' H' R' rs' _=>kk .non H' [] rs'.keep ⟨rfl,rfl⟩ aY (fun a z=>nomatch z)⟩
  ·rename_i c δ' eg
   cases e
   exact⟨_,_,_,rs,eg,fun σ' H' R' rs' _=>kk H' rs'.keep⟩
  ·cases e
structure DefX(P:fw)(w:fx)(K:aa)(mg:Str->Option Value)(base:Heap)(k:Nat)(x:Str)(sp:Sp):Prop where
 ok:∃(f:Addr) (fd:fy) (ps:List Str),mg x=some (.ref f)∧bB K (.ref f)=true∧Binds K fd ps []∧FnOk P w K mg base (CXE P w) k f fd ps sp
def XW(X:Cx)(cl:Nat->Value)(RX:XR):Prop:=∀(pins:AO) (σ:St) (H:Hp) (s:dw) (ea T:Addr) (c:Nat),Inv X pins σ H s->FpX X pins H ea->FpX X pins H T->Thr s.heap ea T (cl c)->RX c σ H->X.xe (.ref ea) s
theorem x3a{N:List Str}{qual:Str}{scope:fI}{f:Addr}{cd:Value}{A:Around}{outer:List Env}{s:dw}{H:Hp}{E:XK}{cl:Nat->Value}:XW (z8p (CXE P w) P w K mg base N qual scope f cd A outer s H E) cl (x2h cl E):=by
 intro pins σ H1 s1 ea T c I fe fT th hE
 refine z6t (y1Y (base:=base) (outer:=outer) I.ok.frames I.stack rfl th fun h' G=>?_)
 have I':=I.gone G fun b hb=>by
  rcases ai.mp hb with rfl | hb
  ·exact fe
  ·rw[ag.mp hb];exact fT
 obtain⟨T',hT,th'⟩:=G.thr
 have he:s.heap.get? ea=none:=by
  rcases fe.2.2.1 with z | z
  ·exact absurd (show ea∈([]:List Addr) from z) (by simp)
  ·exact z
 exact⟨ea,T',cl c,H1,rfl,I'.os,I'.bare,I'.base,I'.hok,he,Heap.get?_none_of_le (aI I.sz hT),fe.1,I.hok.fresh hT,th',hE⟩
theorem z9x{N:List Str}{qual:Str}{scope:fI}{f C:Addr}{cd:Value}{A:Around}{outer:List Env}{s:dw}{H:Hp}{E:XK}{cl:Nat->Value}{c:Nat}(hc:cl c = .ref C):Want (z8p (CXE P w) P w K mg base N qual scope f cd A outer s H E) C (x2h cl E c):=
 fun pins σ H1 s1 e I hf ht hE=>y9H I hf ht (by rw[←hc];exact hE)
end
section
variable{X:Cx}{k:Nat}{f:Addr}{fd:fy}{ps:List Str}{sp:Sp}{cl:Nat->Value}{RX:XR}
theorem run_fnX{pins:AO}{σ:St}{H:Hp}{s:dw}{Q:VK}{us:List Value}{vs:List V}(F:FnOk X.prog X.w X.K X.mg X.base (CXE X.prog X.w) k f fd ps sp)(hr:Room k X.A)(hb:Binds X.K fd ps [])(hW:XW X cl RX)
  (I:Inv X pins σ H s) (r:Vals vs us) (h:sp vs H Q (fun cls _ H'=>∃c,cls=cl c∧RX c σ H')):wpAny (model X.prog X.w) X.A (call (.ref f) us) (EP X pins σ Q) X.xe s:=by
 have hl:us.length=ps.length:=by rw[←r.length];exact F.len _ _ _ _ h
 have hb':=hb s us I.kIn (by rw[aF];exact hl)
 rw[aF]at hb'
 refine wpAny_call (codeAny_mono (F.run X.A X.stack s H ⟨us,[]⟩ us vs Q _ hr I.env0 hb' r h) fun r s' hq=>?_)
 cases r with
 |error e=>
  obtain⟨ea,T,cls,H',rfl,os,bare,un,hok,h1,h2,h3,h4,th,c,rfl,rx⟩:=hq
  exact hW pins σ H' s' ea T c (I.call' os un hok bare fun b hb=>nomatch hb) (I.fpX h1 h3) (I.fpX h2 h4) th rx
 |ok fl=>
  cases fl with
  |ret u=>exact I.after hq
  |next=>exact False.elim hq
  |brk=>exact False.elim hq
  |cont=>exact False.elim hq
end
section
variable{X:Cx}{k:Nat}{sp:Sp}{cl:Nat->Value}{RX:XR}{x:Str}{p pos:Pos}{e:Expr}{es:List Expr}{t:TA}
def tCallX(cl:Nat->Value)(RX:XR)(sp:Sp)(t:TA):TE:=fun σ H Q=>t σ H fun vs H1=>sp vs H1 Q fun cls _ H'=>∃c,cls=cl c∧RX c σ H'
theorem y4o(G:DefX X.prog X.w X.K X.mg X.base k x sp)(hr:Room k X.A)(hg:Gl X x)(hW:XW X cl RX)(ha:PA X (e::es) t)(hdb:(x==("__debug__" : Str))=false:=by decide)
  (he:starEach (e::es) X.env=(false,eval e X.env)::starEach es X.env:=by rfl) (hpl:(fD pos (starEach es X.env)).any (·.1)=false:=by rfl):PE X (.Call (.Name x p) (e::es) [] pos) (tCallX cl RX sp t):=by
 obtain⟨f,fd,ps,hm,hk,hb,ok⟩:=G.ok
 intro pins s σ H Q I h
 refine wpAny_Call_Name_kw (z7E I hg hm ?_ hdb)
 refine eS (h₀:=X.base) I.ok.mod.kin hk (thn (ha pos pins s σ H _ I h) fun us s1 ⟨vs,H1,I1,r,q⟩=>⟨I1.kIn,?_⟩) he hpl
 exact run_fnX ok hr hb hW I1 r q
def tX(K:aa)(RX:XR)(F:DS->Option XO):TE:=fun σ H Q=>∃δ o,RepS K H noB σ δ∧F δ=some o∧(match o with
 |.val d=>∀v H' A,Same H H'->Tree K H' d v A->A.Nodup->(∀a∈A,H a=none)->Q v H'
 |.exc c=>∀H',Same H H'->RX c σ H')
def z1y(m:List D->Option XO)(fl:List DE):DS->Option XO:=fun δ=>(z0j fl δ).bind m
theorem y7S{m:List D->Option XO}{fl:List DE}(G:DefX X.prog X.w X.K X.mg X.base k x (spX X.K cl m))(hr:Room k X.A)(hg:Gl X x)(hW:XW X cl RX)(ha:PAD X (e::es) fl)(hdb:(x==("__debug__" : Str))=false:=by decide)
  (he:starEach (e::es) X.env=(false,eval e X.env)::starEach es X.env:=by rfl) (hpl:(fD pos (starEach es X.env)).any (·.1)=false:=by rfl):PE X (.Call (.Name x p) (e::es) [] pos) (tX X.K RX (z1y m fl)):=
 (y4o G hr hg hW ha hdb he hpl).imp fun σ H Q ⟨δ,o,S,q,kk⟩=>by
  unfold z1y at q
  cases e1:z0j fl δ with
  |none=>rw[e1]at q;cases q
  |some ds=>
   rw[e1,aj]at q
   refine⟨noB,δ,ds,.no,S,e1,fun vs H1 s1 r1=>⟨ds,o,r1,q,?_⟩⟩
   cases o with
   |val d=>exact fun v H' A s' t nd fr=>kk v H' A (s1.trans s') t nd fun a ha=>s1.free (fr a ha)
   |exc c=>exact fun H' s'=>⟨c,rfl,kk H' (s1.trans s')⟩
variable{H0:Hp}{B0:Addr->Prop}{fr:Bool}{F:DS->Option XO}
def y0s(F:DS->Option XO):SS->Option Out:=fun δ=>(F (z0w δ)).map fun o=>match o with
 |.val _=>.nx δ
 |.exc c=>.ex c δ
theorem s_exprX(h:PE X e (tX X.K RX F))(hs:swapsWith e none pos.line X.env=pure false:=by rfl):PS X (.Expr e pos) (tS X.K H0 B0 fr RX (y0s F)):=PS.imp (z6w h hs) fun D σ H ⟨δ,R,o,rs,q,k⟩=>by
 unfold y0s at q
 cases e1:F (z0w δ)with
 |none=>rw[e1]at q;cases q
 |some o1=>
  rw[e1]at q
  refine⟨z0w δ,o1,rs.all,e1,?_⟩
  cases o1 with
  |val d=>
   cases q
   exact fun v H' A s t nd fr'=>k σ H' R (rs.mono s) (Stp.same s)
  |exc c=>
   cases q
   exact fun H' s=>k σ H' R (rs.mono s) (.same s)
end
abbrev Cx.suite(X:Cx)(e:Value):Cx:={ X with A:=X.A.mark (some e),calm:=false,xe:=fun _ _=>False }
section
variable{X:Cx}{pins:AO}{σ:St}{H:Hp}{s:dw}{e:Value}
theorem Cx.Ok.suite(ok:X.Ok)(e:Value):(X.suite e).Ok:=
 ⟨ok.mod,ok.kind,ok.glob,ok.blt,ok.above,ok.inj,ok.has,ok.cab,(fun z=>Bool.noConfusion z),ok.frames,ok.stk,ok.exf,ok.bs,ok.bsz,ok.noex,ok.exfs,ok.funs,ok.frf⟩
theorem Inv.suite(I:Inv X pins σ H s)(e:Value):Inv (X.suite e) pins σ H s:=⟨I.ok.suite e,I.os,I.bare,I.base,I.loc,I.cell,I.free,I.freeC,I.pin,I.hok,I.len⟩
theorem Inv.unsuite(ok:X.Ok)(I:Inv (X.suite e) pins σ H s):Inv X pins σ H s:=⟨ok,I.os,I.bare,I.base,I.loc,I.cell,I.free,I.freeC,I.pin,I.hok,I.len⟩
theorem SP.unsuite{D:Ends}{f:Flow}{s':dw}(ok:X.Ok)(h:SP (X.suite e) pins D f s'):SP X pins D f s':=by
 cases f with
 |next=>obtain⟨σ',H',I,q⟩:=h;exact⟨σ',H',I.unsuite ok,q⟩
 |brk=>obtain⟨σ',H',I,q⟩:=h;exact⟨σ',H',I.unsuite ok,q⟩
 |cont=>obtain⟨σ',H',I,q⟩:=h;exact⟨σ',H',I.unsuite ok,q⟩
 |ret u=>obtain⟨v,σ',H',I,r,q⟩:=h;exact⟨v,σ',H',I.unsuite ok,r,q⟩
end
theorem y2n{M:Model}{A:Around}{E:Value->dw->Prop}{s:dw}{e T:Addr}{cls:Value}{Q:Unit->dw->Prop}(th:Thr s.heap e T cls)(h:∀h',(∀b o,s.heap.get? b=some o->h'.get? b=some o)->Q () { s with heap:=h' }):wpAny M A (setFlight (.ref e) none) Q E s:=by
 obtain⟨oe,vs,oT,ts,he,_,hd,h1,hTe,hT,hdT,h3,hdn⟩:=th
 unfold setFlight
 refine wpAny_bind (wpAny_field he hd h1 ?_)
 rw[if_pos (show(Value.ref T != Value.none)=true from by simp)]
 refine wpAny_setField hT hdT (aU.mp h3).1 (h _ fun b o q=>?_)
 by_cases hb:b=T
 ·subst hb
  rw[hT]at q
  cases q
  have e1:=Heap.get?_update_self (Obj.mapFields (·.setIfInBounds 3 ((none:Option Addr).elim Value.none fun f=>rawInt f))) hT (Obj.isFreed_of_fields (Obj.data_mapFields hdT _))
  rw[e1]
  congr 1
  obtain⟨c,d,dt,sl⟩:=oT
  have hdT:dt = .fields ts:=hdT
  subst hdT
  obtain⟨hlt,h3⟩:=aU.mp h3
  have z:ts.setIfInBounds 3 Value.none=ts:=by
   apply fg
   intro i
   by_cases hi:3=i
   ·subst hi
    rw[c7 hlt,cK hlt,h3]
   ·rw[Array.getElem?_setIfInBounds_ne hi]
  show Obj.mk c d (.fields (ts.setIfInBounds 3 Value.none)) sl=_
  rw[z]
 ·exact(Heap.get?_update_other _ _ (Ne.symm hb)).trans q
section
variable{X:Cx}{cls:Value}{t:TS}
def PH(X:Cx)(hs:List ExceptHandler)(cls:Value)(t:TS):Prop:=∀(pins:AO) (s:dw) (σ:St) (H:Hp) (D:Ends) (ea T:Addr),Inv X pins σ H s->FpX X pins H ea->Thr s.heap ea T cls->t D σ H->wpAny (model X.prog X.w) X.A (handleBy (.ref ea) X.env hs) (SP X pins D) X.xe s
theorem thr_ty{M:Model}{h:Heap}{ea T:Addr}(th:Thr h ea T cls):PySem.W.Looks M h (typeOf (.ref ea)) cls:=by
 obtain⟨oe,vs,oT,ts,he,rfl,_⟩:=th
 exact(PySem.W.Looks.ld he).andThen .now
end
abbrev Cx.tried(X:Cx)(pn:AO)(xe:Value->dw->Prop):Cx:={ X with pn:=pn,xe:=xe }
section
variable{X:Cx}{pins pn:AO}{xe:Value->dw->Prop}{σ:St}{H:Hp}{s:dw}
theorem Cx.Ok.tried(ok:X.Ok):(X.tried pn xe).Ok:=
 ⟨ok.mod,ok.kind,ok.glob,ok.blt,ok.above,ok.inj,ok.has,ok.cab,ok.hd,ok.frames,ok.stk,ok.exf,ok.bs,ok.bsz,ok.noex,ok.exfs,ok.funs,ok.frf⟩
theorem Inv.tried(I:Inv X pins σ H s):Inv (X.tried (X.pn++pins) xe) [] σ H s:=⟨I.ok.tried,I.os,I.bare,I.base,I.loc,I.cell,I.free,I.freeC,fun p hp=>I.pin p (by simpa using hp),I.hok,I.len⟩
theorem Inv.untried{more:AO}(ok:X.Ok)(I:Inv (X.tried (X.pn++pins) xe) more σ H s):Inv X pins σ H s:=⟨ok,I.os,I.bare,I.base,I.loc,I.cell,I.free,I.freeC,fun p hp=>I.pin p (au.mpr (.inl hp)),I.hok,I.len⟩
theorem FpX.untried{more:AO}{b:Addr}(h:FpX (X.tried (X.pn++pins) xe) more H b):FpX X pins H b:=⟨h.1,h.2.1,h.2.2.1,h.2.2.2.1,fun p hp=>h.2.2.2.2 p (au.mpr (.inl hp))⟩
theorem SP.untried{more:AO}{D:Ends}{f:Flow}{s':dw}(ok:X.Ok)(h:SP (X.tried (X.pn++pins) xe) more D f s'):SP X pins D f s':=by
 cases f with
 |next=>obtain⟨σ',H',I,q⟩:=h;exact⟨σ',H',I.untried ok,q⟩
 |brk=>obtain⟨σ',H',I,q⟩:=h;exact⟨σ',H',I.untried ok,q⟩
 |cont=>obtain⟨σ',H',I,q⟩:=h;exact⟨σ',H',I.untried ok,q⟩
 |ret u=>obtain⟨v,σ',H',I,r,q⟩:=h;exact⟨v,σ',H',I.untried ok,r,q⟩
end
def tryO(gb:SS->Option Out)(gh:Nat->SS->Option Out):SS->Option Out:=fun δ=>(gb δ).bind fun o=>match o with
 |.nx δ'=>some (.nx δ')
 |.ct δ'=>some (.ct δ')
 |.bk δ'=>some (.bk δ')
 |.rt d=>some (.rt d)
 |.rb d δ'=>some (.rb d δ')
 |.ex c δ'=>gh c δ'
section
variable{X:Cx}{H0:Hp}{B0:Addr->Prop}{fr:Bool}{RX:XR}{cl:Nat->Value}{body:List Stmt}{h₀:ExceptHandler}{hs:List ExceptHandler}{pos:Pos}
theorem y4J{g:SS->Option Out}{cls:Value}(hg:∀δ,g δ=none){ks:List ExceptHandler}:PH X ks cls (tS X.K H0 B0 fr RX g):=by
 intro pins s σ H D ea T I fe th ⟨δ,R,o,_,q,_⟩
 rw[hg]at q
 cases q
theorem s_try{gb:SS->Option Out}{gh:Nat->SS->Option Out}(hst:X.stack=X.env::X.outer)(hfr:X.env.frame=some X.env.locals)
  (hb:∀(pn:AO) (xe:Value->dw->Prop) (RX':XR),XW (X.tried pn xe) cl RX'->PSs (X.tried pn xe) body (tS X.K H0 B0 fr RX' gb))
  (hh:∀c,PH X (h₀::hs) (cl c) (tS X.K H0 B0 fr RX (gh c))):PS X (.Try body (h₀::hs) [] [] pos) (tS X.K H0 B0 fr RX (tryO gb gh)):=by
 intro pins s σ H D I ⟨δ,R,o,rs,q,k⟩
 unfold tryO at q
 cases e1:gb δ with
 |none=>rw[e1]at q;cases q
 |some o1=>
  rw[e1,aj]at q
  refine wpAny_Try_except ?_
  have ok:=I.ok
  let XE:Value->dw->Prop:=fun e s₁=>wpAny (model X.prog X.w) X.A (noteFrame e X.env) (fun _ s₂=>wpAny (model X.prog X.w) X.A (setFlight e none) (fun _ s₃=>wpAny (model X.prog X.w) X.A (handleBy e X.env (h₀::hs)) (SP X pins D) X.xe s₃) X.xe s₂) X.xe s₁
  have hW:XW (X.tried (X.pn++pins) XE) cl (fun c σ' H'=>tS X.K H0 B0 fr RX (gh c) D σ' H'):=by
   intro pins' σ' H' s' ea T c I' fe fT th hR
   have I2:Inv X pins σ' H' s':=I'.untried ok
   have hf2:=ok.frames
   have hs2:=I2.stack
   rw[hst]at hf2 hs2
   refine y1Y (base:=X.base) (outer:=X.outer) hf2 hs2 hfr th fun h' G=>?_
   rw[←hst]at G
   have I3:=I2.gone G fun b hb=>by
    rcases ai.mp hb with rfl | hb
    ·exact fe.untried
    ·rw[ag.mp hb];exact fT.untried
   obtain⟨T',_,th'⟩:=G.thr
   exact hh c pins _ σ' H' D ea T' I3 fe.untried th' hR
  have run:=hb (X.pn++pins) XE _ hW [] s σ H D I.tried ⟨δ,R,o1,rs,e1,by
   cases o1 with
   |nx δ'=>cases q;exact k
   |ct δ'=>cases q;exact k
   |bk δ'=>cases q;exact k
   |rt d=>cases q;exact k
   |rb d δ'=>cases q;exact k
   |ex c δ'=>exact fun σ' H' R' rs' s'=>⟨δ',R',o,rs',q,k.back s'⟩⟩
  refine wpAny_mono run (fun f s₁ z=>?_) fun _ _ z=>z
  have z:=z.untried ok
  cases f with
  |next=>exact wpAny_execs_nil z
  |brk=>exact z
  |cont=>exact z
  |ret u=>exact z
end
section
variable{K:aa}{H0 H:Hp}{B0:Addr->Prop}{σ:St}{δ:SS}{R:Nat->List Addr}
def movS(i j:Nat)(d:D)(δ:SS):SS:=((z0M j δ).set j none).set i (some (.ow d))
theorem z9k{i j k:Nat}{d:D}{x:SD}(h:(movS i j d δ)[k]? = some (some x)):(k=i∧x = .ow d∧i<δ.length)∨(k≠i∧k≠j∧δ[k]? = some (some x)∧∀d,x≠.bo j d):=by
 unfold movS at h
 rcases z2p h with⟨e,q,hl⟩ | ⟨hk,q⟩
 ·cases q
  refine .inl ⟨e,rfl,?_⟩
  rw[cY]at hl
  unfold z0M at hl
  rwa [ao]at hl
 ·rcases z2p q with⟨e,q',_⟩ | ⟨hj,q'⟩
  ·cases q'
  ·exact .inr ⟨hk,hj,z4A q'⟩
theorem RS.mov{i j:Nat}{d:D}{v:V}(hij:i≠j)(h:RS K H0 B0 H σ δ R)(t:Tree K H d v (R j))(nd:(R j).Nodup):RS K H0 B0 H (σ.set i (some v)) (movS i j d δ) (y0n (y0n R j []) i (R j)):=by
 have up:∀{k:Nat} {w:V},k≠i->σ[k]? = some (some w)->(σ.set i (some v))[k]? = some (some w):=fun hj e=>by rw[aW (Ne.symm hj)];exact e
 have mem:∀r a,a∈y0n (y0n R j []) i (R j) r->(r=i∧a∈R j)∨(r≠i∧r≠j∧a∈R r):=fun r a z=>by
  by_cases hr:r=i
  ·subst hr;rw[z0U]at z;exact .inl ⟨rfl,z⟩
  ·rw[z1s hr]at z
   by_cases hj:r=j
   ·subst hj;rw[z0U]at z;cases z
   ·rw[z1s hj]at z;exact .inr ⟨hr,hj,z⟩
 refine⟨h.keep,h.inB,by unfold movS z0M;simp[h.len],fun r a z=>?_,fun r a z=>?_,fun r s a z z'=>?_,fun k d' z=>?_,fun k r' d' z=>?_,fun k d' z=>?_⟩
 ·rcases mem r a z with⟨_,z⟩ | ⟨_,_,z⟩ <;> exact h.new _ a z
 ·rcases mem r a z with⟨_,z⟩ | ⟨_,_,z⟩ <;> exact h.held _ a z
 ·rcases mem r a z with⟨h1,z⟩ | ⟨h1,h1',z⟩ <;> rcases mem s a z' with⟨h2,z'⟩ | ⟨h2,h2',z'⟩
  ·rw[h1,h2]
  ·exact absurd (h.disj s j a z' z) h2'
  ·exact absurd (h.disj r j a z z') h1'
  ·exact h.disj r s a z z'
 ·rcases z9k z with⟨_,q,_⟩ | ⟨h1,h2,q,_⟩
  ·cases q
  ·obtain⟨w,e1,r⟩:=h.sh k d' q
   refine⟨w,up h1 e1,r.anti fun a z=>z.imp id fun⟨r,z⟩=>?_⟩
   rcases mem r a z with⟨_,z⟩ | ⟨_,_,z⟩ <;> exact⟨_,z⟩
 ·rcases z9k z with⟨_,q,_⟩ | ⟨h1,h2,q,hn⟩
  ·cases q
  ·obtain⟨w,e1,r⟩:=h.bo k r' d' q
   have hr':r'≠j:=fun e=>hn d' (by rw[e])
   refine⟨w,up h1 e1,r.anti fun a z=>z.imp id fun⟨s,hs,z⟩=>?_⟩
   rcases mem s a z with⟨_,z⟩ | ⟨_,_,z⟩
   ·exact⟨j,Ne.symm hr',z⟩
   ·exact⟨s,hs,z⟩
 ·rcases z9k z with⟨e,q,hl⟩ | ⟨h1,h2,q,_⟩
  ·cases q
   subst e
   rw[z0U]
   exact⟨v,by rw[bW];simp[←h.len,hl],t,nd⟩
  ·obtain⟨w,e1,t'⟩:=h.ow k d' q
   rw[z1s h1,z1s h2]
   exact⟨w,up h1 e1,t'⟩
end
section
variable{X:Cx}{H0:Hp}{B0:Addr->Prop}{fr:Bool}{RX:XR}{st:Stmt}
def movO(i j:Nat):SS->Option Out:=fun δ=>match δ[j]? with
 |some (some (.ow d))=>some (.nx (movS i j d δ))
 |_=>none
theorem s_mov{i j:Nat}(hij:i≠j)(h:PAsg X st i (y1a j)):PS X st (tS X.K H0 B0 fr RX (movO i j)):=PS.imp h fun D σ H ⟨δ,R,o,rs,q,k⟩=>by
 unfold movO at q
 split at q
 ·rename_i d e
  cases q
  obtain⟨v,e1,t,nd⟩:=rs.ow j d e
  refine⟨v,e1,k _ H _ (rs.mov hij t nd) ⟨fun a o h _=>h,fun r a z=>?_,fun a z=>z⟩⟩
  by_cases hr:r=i
  ·subst hr;rw[z0U]at z;exact .inl ⟨j,z⟩
  ·rw[z1s hr]at z
   by_cases hj:r=j
   ·subst hj;rw[z0U]at z;cases z
   ·rw[z1s hj]at z;exact .inl ⟨r,z⟩
 ·cases q
end
theorem x1q{X:Cx}{H0:Hp}{B0:Addr->Prop}{fr:Bool}{RX:XR}{body:List Stmt}:PSs X body (tS X.K H0 B0 fr RX fun _=>none):=fun _ _ _ _ _ _ ⟨_,_,_,_,e,_⟩=>nomatch e
def Itv(K:aa)(a:Addr)(n:Nat):It:=
 ⟨fun i H=>i<n∧∃xs x,SqL K H a xs∧xs[n - 1 - i]? = some x,fun i H v H'=>H'=H∧i<n∧∀xs,SqL K H a xs->xs[n - 1 - i]? = some v,fun i _=>n≤i⟩
theorem x1e{P:fw}{w:fx}{K:aa}{tg:Expr}(a it:Addr)(n:Nat):Turn P w K tg (Itv K a n) [it] it (fun i h=>i≤n∧h.IsRevIter it a ((n:Int) - 1 - (i:Int))) where
 mem:=by simp
 obj:=fun i h st b hb=>by
  have e:b=it:=by simpa using hb
  subst e
  obtain⟨_,o,e,c,d⟩:=st
  exact⟨o,e,fun v z=>by rw[d]at z;cases z⟩
 keep:=fun i h h' st k=>⟨st.1,st.2.at fun o e=>k it (by simp) o e⟩
 item:=by
  intro X hP hw hK hc i pins s σ H E I hf st hg
  subst hP hw hK
  obtain⟨hi,xs,x,hq,hx⟩:=hg
  obtain⟨its,rv,p,hz⟩:=I.list hq
  obtain⟨u,hu,ru⟩:=rv.get hx
  obtain⟨f0,f1,f2,f3,f4,f5⟩:=hf it (by simp)
  have e1:(n:Int) - 1 - (i:Int)=((n - 1 - i:Nat):Int):=by omega
  have st2:=st.2
  rw[e1]at st2
  refine wpAny_pyNext_rev_item st2 p.isList (x:=u) (by simpa using hu) fun h' st' sb=>?_
  have I1:Inv X pins σ H { s with heap:=h' }:=I.turned (t':=s.toks) (fun b o hb e=>(sb.2 b hb).trans e) f0 f1 f3 f4 f5
  obtain⟨o,e,c,d⟩:=id st'
  have e2:((n - 1 - i:Nat):Int) - 1=(n:Int) - 1 - ((i+1:Nat):Int):=by omega
  rw[e2]at st'
  exact⟨u,rfl,y8s (s:={ s with heap:=h' }) e c d nofun ⟨x,H,I1,ru,⟨rfl,hi,fun ys hy=>by rw[I.list_inj hy hq];exact hx⟩,⟨by omega,st'⟩,fun b hb=>(hf b hb).1⟩⟩
 done:=by
  intro X hP hw hK hc i pins s σ H E I hf st hg
  subst hP hw hK
  have hg:n≤i:=hg
  obtain⟨f0,f1,f2,f3,f4,f5⟩:=hf it (by simp)
  have e1:(n:Int) - 1 - (i:Int) = -1:=by have:=st.1;omega
  have st2:=st.2
  rw[e1]at st2
  exact wpAny_pyNext_rev_end (I.ok.hd hc) st2 fun h' eb=>⟨rfl,I.turned (t':=s.toks) (fun b o hb e=>eb b o hb e) f0 f1 f3 f4 f5⟩
 self:=fun _ _ _ _ _ st h=>wpAny_pyIter_revIter st.2 h
section
variable{X:Cx}
def iRev(K:aa)(tl:TE):TI:=fun σ H R=>tl σ H fun x H1=>∃a xs,[x]=[V.ref a]∧SqL K H1 a xs∧R (Itv K a xs.length) H1
theorem pi_rev{tg:Expr}{p pos:Pos}{l:Expr}{tl:TE}(hg:Gl X "reversed")(hm:X.mg "reversed" = none)(hl:PE X l tl)(hs:starEach [l] X.env=[(false,eval l X.env)]:=by rfl):
  PI X tg (.Call (.Name "reversed" p) [l] [] pos) (iRev X.K tl):=by
 intro pins s σ H R I h
 have hA:PA X [l] (fun σ H Q=>tl σ H fun x H1=>Q [x] H1):=(z1e hl pa_nil (by rw[hs];rfl)).imp fun σ H Q q=>q
 refine wpAny_Call_Name_kw (z3Y I hg hm boot_reversed (PyProof.Rows.callWith_type1 (thn (hA pos pins s σ H (fun vs H1=>∃a xs,vs=[V.ref a]∧SqL X.K H1 a xs∧R (Itv X.K a xs.length) H1) I h) fun us s1 ⟨vs,H1,I1,r1,q1⟩=>?_) hs rfl) nofun nofun)
 obtain⟨a,xs,rfl,hq,q⟩:=q1
 obtain⟨u,rfl,ru⟩:=r1.one
 cases ru
 obtain⟨its,rv,pl,hz⟩:=I1.list hq
 have hlen:=rv.length
 refine call_reversed_list pl.isList ?_
 refine wpAny_pyIter_revIter (i:=(its.toArray.size:Int) - 1) ⟨_,Heap.get?_push_size _ rfl,rfl,rfl⟩ ?_
 have I2:Inv X pins σ H1 { s1 with heap:=s1.heap.push (revObj a ((its.toArray.size:Int) - 1)) }:=I1.kept (t':=s1.toks) fun b o e=>Heap.get?_push_of_some _ e
 refine⟨s1.heap.objs.size,[s1.heap.objs.size],_,_,H1,rfl,I2,x1e a _ xs.length,⟨bn _,?_⟩,fun b hb=>?_,q⟩
 ·refine⟨_,Heap.get?_push_size _ rfl,rfl,?_⟩
  have e:(xs.length:Int) - 1 - ((0:Nat):Int)=(its.toArray.size:Int) - 1:=by simp;omega
  rw[e]
  rfl
 ·have e:b=s1.heap.objs.size:=by simpa using hb
  subst e
  exact I1.fpOk (ar _) (I1.hok.fresh (ar _))
end
theorem itd_rev{K:aa}{H:Hp}{B:Addr->Prop}{a:Addr}{xs:List V}{ds:List D}(hs:∀H',Keep K B H H'->SqL K H' a xs)(r:Reps K H B ds xs):ItD K (Itv K a xs.length) H B ds.reverse:=by
 have hl:=r.length
 refine⟨fun i H' kp hi=>?_,fun i H' kp hi=>?_,fun i H' v H2 kp hy=>?_⟩
 ·rw[b8,hl]at hi
  exact⟨hi,xs,xs[xs.length - 1 - i],hs H' kp,am ⋯⟩
 ·rw[b8,hl]at hi
  exact hi
 ·obtain⟨rfl,hi,hx⟩:=hy
  refine⟨.refl H2,?_⟩
  have hx:=hx xs (hs H2 kp)
  obtain⟨d,e,rd⟩:=(Reps.keep kp ds r).get' hx
  refine⟨d,fun _=>?_,rd⟩
  rw[eV ⋯,hl]
  exact e
def revS:D->Option (List D)
 |.lst ds=>some ds.reverse
 |_=>none
def y9e(f:DE):DS->Option (List D):=fun δ=>(f δ).bind revS
section
variable{X:Cx}
theorem y7K{tg:Expr}{p pos:Pos}{l:Expr}{f:DE}(hg:Gl X "reversed")(hm:X.mg "reversed" = none)(h:PD X l f)(hs:starEach [l] X.env=[(false,eval l X.env)]:=by rfl):
  PID X tg (.Call (.Name "reversed" p) [l] [] pos) (y9e f):=(pi_rev hg hm h hs).imp fun σ H R ⟨B,δ,ds,hB,S,q,k⟩=>by
 unfold y9e at q
 cases e:f δ with
 |none=>rw[e]at q;cases q
 |some d=>
  rw[e]at q
  have q':revS d=some ds:=q
  refine⟨B,δ,d,hB,S,e,fun v H1 s1 r1=>?_⟩
  unfold revS at q'
  split at q'
  ·cases q'
   unfold Rep at r1
   obtain⟨a,xs,rfl,n,h,r⟩:=r1
   refine⟨a,xs,rfl,SqL.of h,k _ H1 s1 fun C hC=>?_⟩
   have na:¬ (B a∨C a):=fun z=>z.elim n fun z=>by rw[hC a z]at h;cases h
   exact itd_rev (xs:=xs) (fun H' kp=>SqL.of (kp.sl a xs na h)) (Reps.wide hC _ r)
  ·cases q'
end
section
end
section
end
abbrev x2x:List Value:=[.type "ValueError",.type "Exception",.type "BaseException",.type "object"]
theorem y4n{K:aa}{h:Heap}{mg:Str->Option Value}{x:Str}{C:Addr}{bl:List Value}{nid:String}(X:K.In h)(G:h.Ns mainGlobals mg)(ha:aD K mainGlobals x=some (some (.ref C)))(hq:cr K C bl nid=true):OwnCls x C bl nid mg h:=by
 refine⟨d8 X G ha,?_⟩
 unfold cr at hq
 cases hk:K.lookup C with
 |none=>rw[hk]at hq;cases hq
 |some ob=>
  rw[hk]at hq
  have hat:=X _ _ hk
  split at hq
  case h_2=>cases hq
  case h_1 od cls sl z=>
   cases z
   split at hq
   case h_2=>cases hq
   case h_1 C1 tl b0 b1 b2 b3 n b5 em es=>
    simp only[aJ,beq_iff_eq,Bool.not_eq_true']at hq
    obtain⟨⟨⟨⟨⟨z1,z2⟩,z3⟩,z4⟩,z5⟩,z6⟩:=hq
    cases cls with
    |mk nm bs mro ns qn hd sn sub ab col del=>
     cases sl with
     |mk l=>
      dsimp only at em es z3 z5 z6
      rw[em,es,z3,z1,z2]at hat
      exact⟨tl,ns,nm,qn,bs,hd,sn,sub,ab,col,od,b0,b1,b2,b3,b5,_,hat,.of_isNs (PySem.W.isNs_of_in X z5),PySem.W.nsMap_none_of_in X z5 z6,PySem.W.tail_of_in X z4⟩
section
variable{X:Cx}{x:Str}{C:Addr}{np cpos pos:Pos}{e₀:Expr}{H0:Hp}{B0:Addr->Prop}{fr:Bool}{RX:XR}
theorem z9p{c:Nat}{f:DE}(hc:X.calm=true)(hg:Gl X x)(O:OwnCls x C x2x "ValueError.__new__" X.mg X.base)(hW:Want X C (RX c))(h:PD X e₀ f)
  (he:starEach [e₀] X.env=[(false,eval e₀ X.env)]:=by rfl) (hd:(x==("__debug__" : Str))=false:=by decide):PS X (.Raise (some (.Call (.Name x np) [e₀] [] cpos)) none pos) (tS X.K H0 B0 fr RX (z6N c f)):=
 s_raise hc hg O PySem.F.excBase_ValueError nofun PySem.F.excBase_ValueError hW h he hd
end
def valO:Option XO->Option D
 |some (.val d)=>some d
 |_=>none
def z2l(m:List D->Option XO)(fl:List DE):DE:=fun δ=>valO (z1y m fl δ)
section
variable{X:Cx}{k:Nat}{cl:Nat->Value}{x:Str}{p pos:Pos}{e:Expr}{es:List Expr}
theorem xw_no:XW X cl noX:=fun _ _ _ _ _ _ _ _ _ _ _ h=>h.elim
theorem y4P{m:List D->Option XO}{fl:List DE}(G:DefX X.prog X.w X.K X.mg X.base k x (spX X.K cl m))(hr:Room k X.A)(hg:Gl X x)(ha:PAD X (e::es) fl)(hdb:(x==("__debug__" : Str))=false:=by decide)
  (he:starEach (e::es) X.env=(false,eval e X.env)::starEach es X.env:=by rfl) (hpl:(fD pos (starEach es X.env)).any (·.1)=false:=by rfl):PN X (.Call (.Name x p) (e::es) [] pos) (z2l m fl):=
 (y7S (RX:=noX) G hr hg xw_no ha hdb he hpl).imp fun σ H Q ⟨δ,d,S,q,kk⟩=>by
  unfold z2l at q
  cases e1:z1y m fl δ with
  |none=>rw[e1]at q;cases q
  |some o=>
   rw[e1]at q
   cases o with
   |exc c=>cases q
   |val d'=>
    cases q
    exact⟨δ,.val d,S,e1,kk⟩
end
section
variable{X:Cx}{pins:AO}{σ:St}{H:Hp}{s:dw}
theorem Inv.adopt{a:Addr}{u:HO}(I:Inv X pins σ H s)(fa:FpX X pins H a)(new:ObjOk X.prog X.w (upd H a u) s.heap a u):Inv X pins σ (upd H a u) s:=by
 have ne:∀b w,H b=some w->b≠a:=fun b w q z=>by rw[z,fa.1]at q;cases q
 have up:∀b w,H b=some w->upd H a u b=some w:=fun b w q=>by rw[z0y (ne b w q)];exact q
 have dn:∀b,b≠a->H b=none->upd H a u b=none:=fun b hb q=>by rw[z0y hb];exact q
 refine⟨I.ok,I.os,I.bare,⟨I.base.keep,I.base.slot,fun b o q n hx=>dn b (fun z=>?_) (I.base.free b o q n hx),I.base.there,fun b xs q=>up b _ (I.base.tups b xs q),fun b o w q=>up b _ (I.base.frzs b o w q),fun b ps q=>?_⟩,I.loc,I.cell,dn _ (Ne.symm fa.2.1) I.free,fun x c q=>dn c (fa.2.2.2.1 x c q) (I.freeC x c q),fun p hp=>?_,fun b w q=>?_,I.len⟩
 ·rcases fa.2.2.1 with y | y
  ·exact hx (z ▸ y)
  ·rw[z,y]at q;cases q
 ·obtain⟨more,q'⟩:=I.base.tbls b ps q
  exact⟨more,up b _ q'⟩
 ·obtain⟨e1,e2,e3⟩:=I.pin p hp
  exact⟨e1,dn p.1 (fa.2.2.2.2 p hp) e2,e3⟩
 ·by_cases hb:b=a
  ·subst hb
   rw[z0r]at q
   cases q
   exact new
  ·rw[z0y hb]at q
   exact(I.hok b w q).stay (fun _ _ _ e=>e) (fun c z=>up c _ z) fun c xs z=>up c _ z
theorem z9E{M:Model}{A:Around}{E:Value->dw->Prop}{i:Nat}{x:Str}{pos:Pos}{Q:Unit->dw->Prop}(I:Inv X pins σ H s)(hN:X.N.Nodup)(hi:X.N[i]? = some x)(hk:X.env.scope.names.lookup x=some .local)
  (h:∀s',Inv X pins (σ.set i none) H s'->Q () s'):wpAny M A (do bindName X.env x .none;unbindBehindTheSuite X.env x pos) Q E s:=by
 obtain⟨m,hn,hl⟩:=id I.loc
 have hcl:(X.env.scope.kind == .class||(X.env.scope.kind == .module&&X.env.locals != X.env.globals))=false:=by rw[I.ok.kind];rfl
 refine wpAny_nameGoes_keeps hk hn hcl fun g v hg hs=>h _ ?_
 have old:∀b o,X.s₀.heap.get? b=some o->b≠X.env.locals:=fun b o q=>aE (aK (Heap.lt_size q) I.ok.above)
 refine⟨I.ok,I.os,I.bare,⟨fun b o q n hb hx=>(hs.2 b (old b o q)).trans (I.base.keep b o q n hb hx),fun b o q n hb hx=>?_,I.base.free,fun b o q hx=>?_,I.base.tups,I.base.frzs,I.base.tbls⟩,⟨_,hg,fun j y w e1 e2 e3=>?_⟩,fun y c q=>?_,I.free,I.freeC,fun p hp=>?_,fun b w q=>?_,by simpa using I.len⟩
 ·obtain⟨sl,q1⟩:=I.base.slot b o q n hb hx
  exact⟨sl,(hs.2 b (old b o q)).trans q1⟩
 ·obtain⟨o',q1⟩:=I.base.there b o q hx
  exact⟨o',(hs.2 b (old b o q)).trans q1⟩
 ·have hji:j≠i:=fun z=>by
   subst z
   rw[bW]at e2
   simp only[if_true]at e2
   split at e2 <;> cases e2
  rw[aW (Ne.symm hji)]at e2
  obtain⟨u',r',q⟩:=hl j y w e1 e2 e3
  refine⟨u',r',?_⟩
  have hyx:y≠x:=fun z=>hji (z9C hN e1 (z ▸ hi))
  rcases q with⟨k,q⟩ | ⟨k,c,q,z⟩
  ·exact .inl ⟨k,by simp[hyx,q]⟩
  ·exact .inr ⟨k,c,q,z.sameBut hs (I.cne y c q)⟩
 ·obtain⟨w',z⟩:=I.cell y c q
  exact⟨w',z.sameBut hs (I.cne y c q)⟩
 ·obtain⟨q,n,ne,nf,d⟩:=I.pin p hp
  exact⟨(hs.2 p.1 ne).trans q,n,ne,nf,d⟩
 ·refine(I.hok b w q).stay (fun c o hc e=>(hs.2 c fun z=>?_).trans e) (fun _ z=>z) fun _ _ z=>z
  subst z
  rcases hc with z | z
  ·rw[←z,I.free]at q;cases q
  ·rw[I.free]at z;cases z
end
def tAs(i:Nat)(C:Addr)(t:TS):TS:=fun D σ H=>∀a,H a=none->t ⟨fun σ' H'=>D.nx (σ'.set i none) H',D.rt,fun σ' H'=>D.bk (σ'.set i none) H',fun σ' H'=>D.ct (σ'.set i none) H'⟩ (σ.set i (some (.ref a))) (upd H a (.ext (isX a C)))
section
variable{X:Cx}{x n:Str}{C Ca:Addr}{np hpos:Pos}{b₀:Stmt}{suite:List Stmt}{rest:List ExceptHandler}{t:TS}{i:Nat}
theorem ph_as(hg:Gl X x)(hm:X.mg x=some (.ref C))(hx:bK X.K (.ref Ca) (.ref C)=some true)(hN:X.N.Nodup)(hi:X.N[i]? = some n)(hk:X.env.scope.names.lookup n=some .local)(hb:∀e,PSs (X.suite e) (b₀::suite) t)(hdb:(x==("__debug__" : Str))=false:=by decide):
  PH X (.ExceptHandler (some (.Name x np)) (some n) (b₀::suite) hpos::rest) (.ref Ca) (tAs i Ca t):=by
 intro pins s σ H D ea T I fe th h
 refine wpAny_handleBy_cons (codeAny_handlers_test (z7E (I.suite (.ref ea)) hg hm ?_ hdb)) (by intro q;cases q)
 refine(PySem.W.exm_one I.kIn (thr_ty th) hx).here ?_
 obtain⟨oe,vs,oT,ts,he,hc,hd,_,_,_,_,_,hdn⟩:=id th
 refine codeAny_handlers_suite_as (y2n th fun h' kp=>?_)
 have I1:Inv X pins σ H { s with heap:=h' }:=I.kept (t':=s.toks) kp
 have hO:ObjOk X.prog X.w (upd H ea (.ext (isX ea Ca))) h' ea (.ext (isX ea Ca)):=by
  refine⟨⟨oe,kp _ _ he,hc,hdn,by unfold PySem.W.notCls;rw[hd]⟩,⟨oe,kp _ _ he⟩,fun h1 h2 z k=>?_⟩
  obtain⟨o,z1,z2⟩:=z
  exact⟨o,k o z1,z2⟩
 have I2:=I1.adopt fe hO
 refine z9n I2 hN hi (.inl hk) (v:=.ref ea) rfl (fun s2 I3=>?_) (.inr hk)
 refine wpAny_mono (hb (.ref ea) pins s2 _ _ _ (I3.suite (.ref ea)) (h ea fe.1)) (fun f s3 q=>?_) fun _ _ z=>z.elim
 have q:=q.unsuite I.ok
 cases f with
 |next=>obtain⟨σ',H',J,q⟩:=q;exact z9E J hN hi hk fun s4 J4=>⟨_,H',J4,q⟩
 |brk=>obtain⟨σ',H',J,q⟩:=q;exact z9E J hN hi hk fun s4 J4=>⟨_,H',J4,q⟩
 |cont=>obtain⟨σ',H',J,q⟩:=q;exact z9E J hN hi hk fun s4 J4=>⟨_,H',J4,q⟩
 |ret u=>obtain⟨v,σ',H',J,r,q⟩:=q;exact z9E J hN hi hk fun s4 J4=>⟨v,_,H',J4,r,q⟩
end
section
variable{K:aa}{H0 H:Hp}{B0:Addr->Prop}{σ:St}{δ:SS}{R:Nat->List Addr}
theorem RS.unset{i:Nat}(h:RS K H0 B0 H σ δ R):RS K H0 B0 H (σ.set i none) (δ.set i none) R:=by
 have gs:∀{j:Nat} {y:SD},(δ.set i none)[j]? = some (some y)->j≠i∧δ[j]? = some (some y):=fun {j y} e=>by
  rcases z2p e with⟨_,q,_⟩ | q
  ·cases q
  ·exact q
 have up:∀{j:Nat} {w:V},j≠i->σ[j]? = some (some w)->(σ.set i none)[j]? = some (some w):=fun hj e=>by rw[aW (Ne.symm hj)];exact e
 refine⟨h.keep,h.inB,by simp[h.len],h.new,h.held,h.disj,fun j d z=>?_,fun j r d z=>?_,fun j d z=>?_⟩
 ·obtain⟨hj,q⟩:=gs z
  obtain⟨v,e,r⟩:=h.sh j d q
  exact⟨v,up hj e,r⟩
 ·obtain⟨hj,q⟩:=gs z
  obtain⟨v,e,r⟩:=h.bo j r d q
  exact⟨v,up hj e,r⟩
 ·obtain⟨hj,q⟩:=gs z
  obtain⟨v,e,r⟩:=h.ow j d q
  exact⟨v,up hj e,r⟩
def unO(i:Nat):Out->Option Out
 |.nx δ=>some (.nx (δ.set i none))
 |.bk δ=>some (.bk (δ.set i none))
 |.ct δ=>some (.ct (δ.set i none))
 |.rt d=>some (.rt d)
 |.rb d δ=>some (.rb d (δ.set i none))
 |.ex _ _=>none
def x0f(i:Nat)(x:Str)(g:SS->Option Out):SS->Option Out:=fun δ=>(g (δ.set i (some (.sh (.exc x))))).bind (unO i)
theorem PH.imp{X:Cx}{hs:List ExceptHandler}{cls:Value}{t t':TS}(h:PH X hs cls t)(w:∀D σ H,t' D σ H->t D σ H):PH X hs cls t':=fun pins s σ H D ea T I fe th q=>h pins s σ H D ea T I fe th (w D σ H q)
theorem as_tS{i:Nat}{x:Str}{Ca:Addr}{fr:Bool}{RX:XR}{g:SS->Option Out}(hx:aD K mainGlobals x=some (some (.ref Ca)))(hb:z5q K Ca=true):∀D σ H,tS K H0 B0 fr RX (x0f i x g) D σ H->tAs i Ca (tS K H0 B0 fr RX g) D σ H:=by
 rintro D σ H ⟨δ,R,o,rs,q,k⟩ a ha
 unfold x0f at q
 cases e1:g (δ.set i (some (.sh (.exc x))))with
 |none=>rw[e1]at q;cases q
 |some o1=>
  rw[e1,aj]at q
  have sm:Same H (upd H a (.ext (isX a Ca))):=z0s ha
  have nb:¬ (B0 a∨∃r,a∈R r):=fun z=>by
   obtain⟨o',q'⟩:=rs.inAll a z
   rw[ha]at q';cases q'
  have rs1:=(rs.mono sm).setSh (i:=i) (d:=.exc x) (v:=.ref a) (by unfold Rep;exact⟨a,Ca,rfl,nb,z0r,hx,hb⟩)
  refine⟨_,R,o1,rs1,e1,?_⟩
  have k:=k.back (Stp.same sm)
  cases o1 with
  |nx δ'=>cases q;exact fun σ' H' R' rs' s'=>k _ H' R' rs'.unset s'
  |bk δ'=>cases q;exact fun σ' H' R' rs' s'=>k _ H' R' rs'.unset s'
  |ct δ'=>cases q;exact fun σ' H' R' rs' s'=>k _ H' R' rs'.unset s'
  |rt d=>cases q;exact k
  |rb d δ'=>cases q;exact fun v σ' H' R' A2 rs' s'=>k v _ H' R' A2 rs'.unset s'
  |ex c δ'=>cases q
end
def z4z(L N:List Str):D->Option D
 |.exc x=>if N.contains x=true then some (.bl (L.contains x))else none
 |_=>none
section
variable{X:Cx}{e:Expr}{f:DE}{y:Str}{p p2 pos:Pos}{L N:List Str}
theorem pe_gl{x:Str}{C:Addr}(hg:Gl X x)(hm:X.mg x=some (.ref C))(hd:(x==("__debug__" : Str))=false:=by decide):PE X (.Name x pos) (tC (.ref C)):=fun _ _ _ H _ I h=>z7E I hg hm ⟨.ref C,H,I,rfl,h⟩ hd
theorem x1c{w:V}{c:Value}(hw:RelV w c)(hu:∀u,RelV w u->u=c):z5r X (.builtin "isinstance") (fun xs H Q=>∃B x v b,xs=[v,w]∧Rep X.K H B (.exc x) v∧(∀C,aD X.K mainGlobals x=some (some (.ref C))->aN X.K (.ref C) c=some b)∧Q (.bl b) H):=by
 intro pins s σ H xs us Q I r h
 obtain⟨B,x,v,b,rfl,rv,hk,q⟩:=h
 obtain⟨u,w',rfl,r1,r2⟩:=vals2 r
 have e:=hu w' r2
 subst e
 unfold Rep at rv
 obtain⟨a,C,rfl,_,hq,hn,hx⟩:=rv
 cases r1
 obtain⟨o,ie⟩:=x3h I hq
 exact bg (y4c hx) I.kIn ie (hk C hn) (fun z=>nomatch z) fun tk=>⟨.bl b,H,I.tok tk,rfl,q⟩
theorem rel_ref{C:Addr}:∀u,RelV (.ref C) u->u = .ref C:=fun _ r=>r
theorem rel_ty{T:String}:∀u,RelV (.ty T) u->u = .type T:=fun _ r=>r
theorem x3l{w:V}{c:Value}(hw:RelV w c)(hu:∀u,RelV w u->u=c)(hc:PE X (.Name y p2) (tC w))(hk:∀x,x∈N->∀C,aD X.K mainGlobals x=some (some (.ref C))->aN X.K (.ref C) c=some (L.contains x))(hg:Gl X "isinstance")(hm:X.mg "isinstance" = none)(h:PD X e f)
  (he:starEach [e,.Name y p2] X.env=[(false,eval e X.env),(false,eval (.Name y p2) X.env)]:=by rfl) (he2:starEach [.Name y p2] X.env=[(false,eval (.Name y p2) X.env)]:=by rfl):PD X (.Call (.Name "isinstance" p) [e,.Name y p2] [] pos) (d1 (z4z L N) f):=
 (z5W (x1c hw hu) hg hm boot_isinstance (z1e h (z1e hc pa_nil he2) (by rw[he,he2])) nofun nofun (by rw[he,he2]) (by rw[he2];rfl)).imp fun σ H Q ⟨B,δ,d,hB,S,q,k⟩=>by
  unfold d1 at q
  cases e1:f δ with
  |none=>rw[e1]at q;cases q
  |some d'=>
   rw[e1,aj]at q
   unfold z4z at q
   split at q
   ·rename_i x
    split at q
    ·rename_i hn
     cases q
     exact⟨B,δ,_,hB,S,e1,fun v H1 s1 r1=>⟨B,x,v,_,rfl,r1,hk x (aw.mp hn),k _ H1 s1 rfl⟩⟩
    ·cases q
   ·cases q
theorem z3L{C:Addr}(hy:Gl X y)(hmy:X.mg y=some (.ref C))(hk:∀x,x∈N->∀B,aD X.K mainGlobals x=some (some (.ref B))->aN X.K (.ref B) (.ref C)=some (L.contains x))(hg:Gl X "isinstance")(hm:X.mg "isinstance" = none)(h:PD X e f)
  (he:starEach [e,.Name y p2] X.env=[(false,eval e X.env),(false,eval (.Name y p2) X.env)]:=by rfl) (he2:starEach [.Name y p2] X.env=[(false,eval (.Name y p2) X.env)]:=by rfl) (hd:(y==("__debug__" : Str))=false:=by decide):PD X (.Call (.Name "isinstance" p) [e,.Name y p2] [] pos) (d1 (z4z L N) f):=
 x3l (w:=.ref C) (c:=.ref C) rfl rel_ref (pe_gl hy hmy hd) hk hg hm h he he2
theorem y2d{T:String}(hy:Gl X y)(hmy:X.mg y=none)(hv:fE y=some (.type T))(hk:∀x,x∈N->∀B,aD X.K mainGlobals x=some (some (.ref B))->aN X.K (.ref B) (.type T)=some (L.contains x))(hg:Gl X "isinstance")(hm:X.mg "isinstance" = none)(h:PD X e f)
  (he:starEach [e,.Name y p2] X.env=[(false,eval e X.env),(false,eval (.Name y p2) X.env)]:=by rfl) (he2:starEach [.Name y p2] X.env=[(false,eval (.Name y p2) X.env)]:=by rfl) (hn:y ≠ "__name__" := by decide) (hd:(y==("__debug__" : Str))=false:=by decide):PD X (.Call (.Name "isinstance" p) [e,.Name y p2] [] pos) (d1 (z4z L N) f):=
 x3l (w:=.ty T) (c:=.type T) rfl rel_ty (y6o (v:=.ty T) hy hmy hv rfl hn hd) hk hg hm h he he2
end
theorem z9L{P:Str->Prop}{c:Str}{r:List Str}(h:P c)(hr:∀x,x∈r->P x):∀x,x∈c::r->P x:=fun x hx=>by
 rcases ai.mp hx with z | z
 ·rw[z];exact h
 ·exact hr x z
theorem j2{P:Str->Prop}:∀x,x∈([]:List Str)->P x:=fun _ h=>nomatch h
section
variable{X:Cx}{H0:Hp}{B0:Addr->Prop}{fr:Bool}{RX:XR}{x n xn:Str}{C Ca:Addr}{np hpos:Pos}{b₀:Stmt}{suite:List Stmt}{rest:List ExceptHandler}{g:SS->Option Out}{i:Nat}
theorem y8C(hn:aD X.K mainGlobals xn=some (some (.ref Ca)))(hxb:z5q X.K Ca=true)(hg:Gl X x)(hm:X.mg x=some (.ref C))(hx:bK X.K (.ref Ca) (.ref C)=some true)(hN:X.N.Nodup)(hi:X.N[i]? = some n)(hk:X.env.scope.names.lookup n=some .local)(hb:∀e,PSs (X.suite e) (b₀::suite) (tS X.K H0 B0 fr RX g))(hdb:(x==("__debug__" : Str))=false:=by decide):
  PH X (.ExceptHandler (some (.Name x np)) (some n) (b₀::suite) hpos::rest) (.ref Ca) (tS X.K H0 B0 fr RX (x0f i xn g)):=PH.imp (ph_as hg hm hx hN hi hk hb hdb) (as_tS hn hxb)
end
def tNs(K:aa)(f:DS->Option (List D)):TA:=fun σ H Q=>∃δ ds,RepS K H noB σ δ∧f δ=some ds∧∀vs H' A,Same H H'->Trees K H' ds vs A->A.Nodup->(∀a∈A,H a=none)->Q vs H'
abbrev PAN(X:Cx)(es:List Expr)(fl:List DE):Prop:=PA X es (tNs X.K (z0j fl))
theorem Trees.len{K:aa}{H:Hp}:∀{ds:List D} {xs:List V} {A:List Addr},Trees K H ds xs A->ds.length=xs.length
 |[],_,_,h=>by unfold Trees at h;rw[h.1];rfl
 |d::ds,_,_,h=>by
  unfold Trees at h
  obtain⟨x,r,C,C',rfl,_,h2,_⟩:=h
  simp[Trees.len h2]
section
variable{X:Cx}{e:Expr}{es:List Expr}{pos:Pos}
theorem y2T:PAN X [] []:=pa_nil.imp fun σ H Q ⟨δ,ds,S,q,k⟩=>by
 cases q
 exact k [] H [] (.refl H) ⟨rfl,rfl⟩ aY (fun a z=>nomatch z)
theorem z2z{f:DE}{fl:List DE}(ha:PN X e f)(hr:PAN X es fl)(hs:starEach (e::es) X.env=(false,eval e X.env)::starEach es X.env:=by rfl):PAN X (e::es) (f::fl):=(z1e ha hr hs).imp fun σ H Q ⟨δ,ds,S,q,k⟩=>by
 obtain⟨x,xs,e1,e2,rfl⟩:=z6v q
 refine⟨δ,x,S,e1,fun v H1 A s1 t1 nd1 f1=>⟨δ,xs,S.mono s1,e2,fun vs H2 C s2 t2 nd2 f2=>?_⟩⟩
 refine k (v::vs) H2 (A++C) (s1.trans s2) ?_ ?_ fun a ha=>?_
 ·unfold Trees
  exact⟨v,vs,A,C,rfl,t1.mono s2,t2,rfl⟩
 ·refine aO.mpr ⟨nd1,nd2,fun a ha b hb z=>?_⟩
  subst z
  obtain⟨o,q',_⟩:=t1.held x a ha
  rw[f2 a hb]at q';cases q'
 ·rcases au.mp ha with z | z
  ·exact f1 a z
  ·exact s1.free (f2 a z)
theorem y3g{fl:List DE}(h:PAN X es fl)(hl:fl.length≤1000:=by decide):PN X (.List es pos) (mkL (z0j fl)):=(y6t h).imp fun σ H Q ⟨δ,d,S,q,k⟩=>by
 unfold mkL at q
 cases r:z0j fl δ with
 |none=>rw[r]at q;cases q
 |some ds=>
  rw[r]at q
  cases q
  refine⟨δ,ds,S,r,fun vs H1 A s1 t1 nd fa=>⟨?_,fun p hp=>?_⟩⟩
  ·rw[←t1.len,z2Y r]
   exact cq (z7o hl)
  ·have sp:=z0s (o:=.lst vs) hp
   refine k (.ref p) _ (p::A) (s1.trans sp) ?_ (aA.mpr ⟨fun z=>?_,nd⟩) fun a ha=>?_
   ·unfold Tree
    exact⟨p,vs,A,rfl,z0r,t1.mono sp,rfl⟩
   ·obtain⟨o,q',_⟩:=Trees.held ds t1 p z
    rw[hp]at q';cases q'
   ·rcases ai.mp ha with z | z
    ·rw[z];exact s1.free hp
    ·exact fa a z
variable{H0:Hp}{B0:Addr->Prop}{a:Expr}
def y7z(δ:SS)(i:Nat):Option D:=match δ[i]? with
 |some (some (.ow d))=>some d
 |some (some (.sh d))=>if d.imm=true then some d else none
 |_=>none
def ret2(i j:Nat):SS->Option Out:=fun δ=>match y7z δ i,y7z δ j with
 |some d,some e=>some (.rt (.lst [d,e]))
 |_,_=>none
theorem x1L{K:aa}{H:Hp}{σ:St}{δ:SS}{R:Nat->List Addr}{i:Nat}{d:D}(rs:RS K H0 B0 H σ δ R)(h:y7z δ i=some d):∃v A,σ[i]? = some (some v)∧Tree K H d v A∧A.Nodup∧∀a∈A,a∈R i:=by
 unfold y7z at h
 split at h
 ·rename_i d' e
  cases h
  obtain⟨v,e1,t,nd⟩:=rs.ow i _ e
  exact⟨v,R i,e1,t,nd,fun a z=>z⟩
 ·rename_i d' e
  split at h
  ·rename_i hi
   cases h
   obtain⟨v,e1,r⟩:=rs.sh i _ e
   exact⟨v,[],e1,r.immTree _ hi,aY,(fun a z=>nomatch z)⟩
  ·cases h
 ·cases h
end
section
end
def repLs:D->D->Option (List D)
 |.lst ds,.int k=>if(0≤k∧k≤1000000)∧ds.length*k.toNat≤sizeLine then some (ad k.toNat ds).flatten else none
 |_,_=>none
def x1s(f g:DE):DS->Option (List D):=fun δ=>(f δ).bind fun x=>(g δ).bind fun y=>repLs x y
theorem Reps.rep{K:aa}{H:Hp}{B:Addr->Prop}{ds:List D}{xs:List V}(h:Reps K H B ds xs):∀n:Nat,Reps K H B (ad n ds).flatten (ad n xs).flatten
 |0=>(show Reps K H B [] [] by unfold Reps;rfl)
 |n+1=>by
  rw[bj,bj,bz,bz]
  exact h.append (Reps.rep h n)
def dIxX(F:DS->Option XO)(g:DE):DS->Option XO:=fun δ=>match F δ with
 |some (.val d)=>(g δ).bind fun y=>(ixD d y).bind fun z=>if z.imm=true then some (.val z)else none
 |some (.exc c)=>some (.exc c)
 |none=>none
section
variable{X:Cx}{a b:Expr}{pos:Pos}{f g:DE}
theorem y3v(ha:PD X a f)(hb:PD X b g):PF X (.BinOp a .Mult b pos) (x1s f g):=(x1t op_rep ha hb).imp fun σ H Q ⟨B,δ,ds,hB,S,q,k⟩=>by
 unfold x1s at q
 cases e1:f δ with
 |none=>rw[e1]at q;cases q
 |some x=>
 rw[e1,aj]at q
 cases e2:g δ with
 |none=>rw[e2]at q;cases q
 |some y=>
 rw[e2,aj]at q
 unfold repLs at q
 split at q
 case h_2=>cases q
 case h_1 xs n=>
 split at q
 case isFalse=>cases q
 case isTrue hl=>
 cases q
 refine⟨B,δ,_,hB,S,e1,fun v H1 s1 r1=>⟨B,δ,_,hB.mono s1,S.mono s1,e2,fun v2 H2 s2 r2=>?_⟩⟩
 unfold Rep at r2
 subst r2
 unfold Rep at r1
 obtain⟨p1,vs,rfl,n1,h1,rs1⟩:=r1
 refine⟨p1,n,vs,rfl,rfl,s2 _ _ h1,by omega,by omega,by rw[←rs1.length];exact hl.2,fun p hp=>?_⟩
 exact k p _ _ ((s1.trans s2).trans (z0s hp)) ((s1.trans s2).free hp) z0r (((rs1.mono s2).rep _).mono (z0s hp))
end
end L2
namespace PySem
open Sem (wp)
theorem y2Z:typeLookup (.type "dict") "__len__" = pure (some (.builtin "dict.__len__")):=by rw[typeLookup_type,builtinLookup_eq_fast];kernel_rfl
section
variable{K:Type}[DecidableEq K]{prog:fw}{w:fx}{knd:KeyKind prog w K}{A:Around}{E:Value->dw->Prop}{s:dw}
theorem z5Q{d:Addr}{kvs:List (K×Value)}{ep:Nat}{Q:List Value->dw->Prop}(hh:A.in1.handled=none)(hd:(d==sysModules)=false)(hm:s.heap.DictAt knd d kvs ep)(hn:kvs.length≤sizeLine)
  (hQ:∀s' acc,Moved [] (fun a b=>b=a) s s'->ItemsOf (fun i v=>∃k x,kvs[i]? = some (k,x)∧knd.is k v=true) acc kvs.length->Q acc.toList s'):wpAny (model prog w) A (collect (.ref d)) Q E s:=by
 have hlt:(d:Nat)<s.heap.objs.size:=hm.lt_size
 have hSd:s.heap.objs.size≠d:=fun e=>bw _ (e ▸ hlt)
 unfold collect
 refine wpAny_bind (wpAny_runValue (codeAny_builtin F.entry_proto_collect ?_))
 rw[Around.under_plainId F.plain_proto_collect _]
 show wpAny _ A.in1 (newList [] >>= fun l=>again (.builtin "list.__iadd__" ⟨[l,.ref d],[]⟩)) _ _ s
 refine wpAny_bind (wpAny_newObj_type ?_)
 refine wpAny_pure ⟨plainId_quiet F.plain_list_iadd _,codeAny_builtin F.entry_list_iadd ?_⟩
 rw[Around.under_plainId F.plain_list_iadd _]
 have hm1:=hm.push { cls:=.type "list",data:=.seq ([]:List Value).toArray }
 have hT1:({ s with heap:=s.heap.push { cls:=.type "list",data:=.seq ([]:List Value).toArray } }:dw).TypeIs (.ref d) "dict" := hm1.dictOf.typeIs
 have h1:Builtin.List.listSameRef (.ref s.heap.objs.size) (.ref d)=false:=by simp[Builtin.List.listSameRef,hSd]
 show wpAny _ A.in1 (Builtin.List.listExtendWith (.ref s.heap.objs.size) (.ref d) (.ref s.heap.objs.size)) _ _ _
 unfold Builtin.List.listExtendWith
 refine wpAny_bind (wpAny_typeOf hT1 ?_)
 rw[if_neg (by rw[h1];decide)]
 refine wpAny_bind (wpAny_pyIter_dict hd hm1 ?_)
 refine wpAny_bind (wpAny_holding ?_)
 unfold Builtin.List.listLengthHint
 have hm2:=hm1.push { cls:=.type "dict_keyiterator",data:=.fields #[.ref d,.int 0 0,.int kvs.length 0,.int ep 0] }
 have hT2:=hm2.dictOf.typeIs (s:={ s with heap:=(s.heap.push { cls:=.type "list",data:=.seq ([]:List Value).toArray }).push { cls:=.type "dict_keyiterator",data:=.fields #[.ref d,.int 0 0,.int kvs.length 0,.int ep 0] } })
 refine wpAny_bind (wpAny_specialOf hT2 y2Z ?_)
 (generalize hid:("dict.__len__" : String)=id0;(fail_if_success (clear hid id0));wp_delta;rw[show splitId id0=some ("dict", "__len__") from by subst hid;decide +kernel];subst hid)
 refine wpAny_bind (wpAny_isInstance (b:=true) hT2 (by rw[isSubtype_type];kernel_rfl) ?_)
 show wpAny _ A.in1 (typeOf (Value.ref d) >>= _) _ _ _
 refine wpAny_bind (wpAny_typeOf hT2 ?_)
 refine wpAny_pure ?_
 show wpAny _ A.in1 (rule "list.extend.makes-room" >>= fun _=>Builtin.List.listTouch (.ref s.heap.objs.size) >>= fun _=>
  again (.builtin "list.extend.loop" ⟨[.ref s.heap.objs.size,.ref (s.heap.push { cls:=.type "list",data:=.seq ([]:List Value).toArray }).objs.size,.ref s.heap.objs.size],[]⟩)) _ _ _
 refine wpAny_bind (wpAny_rule ?_)
 obtain⟨hA,eA⟩:∃h:Heap,h=s.heap.push { cls:=.type "list",data:=.seq ([]:List Value).toArray }:=⟨_,rfl⟩
 obtain⟨hB,eB⟩:∃h:Heap,h=hA.push { cls:=.type "dict_keyiterator",data:=.fields #[.ref d,.int 0 0,.int kvs.length 0,.int ep 0] }:=⟨_,rfl⟩
 have sA:hA.objs.size=s.heap.objs.size+1:=by rw[eA];simp[Heap.push]
 have hne:d≠hA.objs.size:=aE (aK hlt (by rw[sA];exact ff _))
 have W:=(Walks.dictKeys (A:=A.in1) (prog:=prog) (w:=w) (knd:=knd) hh hA.objs.size d hne kvs ep).toS
 have hIt:hB.IsKeyIter hA.objs.size d 0 kvs.length ep:=⟨_,by rw[eB];exact Heap.get?_push_size _ rfl,rfl,rfl⟩
 have hDt:hB.DictAt knd d kvs ep:=by rw[eB,eA];exact hm2
 have hS₁:hB.get? s.heap.objs.size=some { cls:=.type "list",data:=.seq ([]:List Value).toArray }:=by rw[eB,eA];exact Heap.get?_push_of_some _ (Heap.get?_push_size _ rfl)
 have hSf:s.heap.objs.size∉[hA.objs.size,d]:=fun hm=>by
  rcases ai.mp hm with z | z
  ·omega
  ·exact hSd (ag.mp z)
 rw[←eA,←eB]
 refine wpAny_bind ?_
 show wpAny _ A.in1 (updateSeq s.heap.objs.size (·.push .none) >>= fun _=>updateSeq s.heap.objs.size (·.pop)) _ _ _
 refine wpAny_bind (wpAny_updateSeq hS₁ rfl ?_)
 have hS₂:=Heap.get?_update_self (Obj.mapSeq (·.push Value.none)) hS₁ rfl
 refine wpAny_updateSeq hS₂ rfl ?_
 have hS₃:=Heap.get?_update_self (Obj.mapSeq (·.pop)) hS₂ rfl
 have oth:∀b o,b≠s.heap.objs.size->hB.get? b=some o->((hB.update s.heap.objs.size (Obj.mapSeq (·.push Value.none))).update s.heap.objs.size (Obj.mapSeq (·.pop))).get? b=some o:=
  fun b o hb e=>(Heap.get?_update_other _ _ (Ne.symm hb)).trans ((Heap.get?_update_other _ _ (Ne.symm hb)).trans e)
 refine wpAny_pure ⟨plainId_quiet F.plain_extend_loop _,codeAny_extend_loopS W hn _ hSf _ kvs.length 0 _ _ _ rfl (bn _)
  (W.frame 0 ({ s with heap:=hB }:dw) _ s.toks ⟨hIt,hDt⟩ (ar _) fun b hb o e=>oth b o (fun h=>hSf (h ▸ hb)) e) hS₃ (ItemsOf.nil _) fun s' acc' c' hmv hS' hacc=>?_⟩
 show wpAny _ A (load s.heap.objs.size >>= _) _ _ s'
 refine wpAny_bind (wpAny_load hS' ?_)
 refine wpAny_pure (hQ s' acc' ⟨fun b o _ e=>?_,hmv.gens,hmv.drawn,hmv.os,hmv.toks⟩ hacc)
 have hb:(b:Nat)<s.heap.objs.size:=Heap.lt_size e
 refine hmv.heap b o (fun z=>?_) (oth b o (aE hb) (by rw[eB,eA];exact Heap.get?_push_of_some _ (Heap.get?_push_of_some _ e)))
 rcases ai.mp z with z | z
 ·exact aE hb z
 ·exact aE (aK hb (by rw[sA];exact ff _)) (ag.mp z)
end
end PySem
namespace L2
open PySem PySem.Spec PyProof.Rows
theorem y7C:∀{vs:List Value} {ns:List Int},vs.length=ns.length->(∀(j:Nat) (v:Value) (n:Int),vs[j]? = some v->ns[j]? = some n->∃t:Tok,v=Value.int n t)->fJ vs ns
 |[],[],_,_=>.nil
 |[],_::_,h,_=>by cases h
 |_::_,[],h,_=>by cases h
 |v::vs,n::ns,h,hs=>by
  obtain⟨t,rfl⟩:=hs 0 v n rfl rfl
  exact .cons n t (y7C (by simpa using h) fun j v n e1 e2=>hs (j+1) v n (by simpa using e1) (by simpa using e2))
section
variable{prog:fw}{w:fx}{A:Around}{E:Value->dw->Prop}{s:dw}
theorem y2s{d:Addr}{kvs:List (Key×Value)}{ep:Nat}{ns:List Int}{Q:Value->dw->Prop}(hh:A.handled=none)(hd:(d==sysModules)=false)(hm:s.heap.DictAt (z1l prog w) d kvs ep)(hk:kvs.map (·.1)=ns.map Sum.inl)(h64:ns.length<64)
  (h:∀(h1 h':Heap) (tk:Nat) (out:List Value) (e:Nat) (ns':List Int),(∀b o',s.heap.get? b=some o'->h1.get? b=some o')->(∀b o',h1.get? b=some o'->h'.get? b=some o')->h'.get? h1.objs.size=some { cls:=.type "list",data:=.seq out.toArray e }->fJ out ns'->ns'.Perm ns->ns'.Pairwise (· ≤ ·)->Q (.ref h1.objs.size) { s with heap:=h',toks:=tk }):
  wpAny (model prog w) A (call (.builtin "sorted") [.ref d]) Q E s:=by
 have hl:kvs.length=ns.length:=by rw[←ao (f:=(·.1)),hk,ao]
 refine Calls.call_function_entry kind_sorted plain_sorted entry_sorted (args_sorted1 _) ?_
 unfold Builtin.«sorted»
 refine wpAny_bind (m:=checkCount "sorted" 1 1 _) (wpAny_pure ?_)
 refine wpAny_bind (z5Q hh hd hm (by rw[sizeLine_eq];omega) fun s1 acc mv hit=>?_)
 have hI:fJ acc.toList ns:=by
  refine y7C (by rw[bL,hit.1,hl]) fun j v n e1 e2=>?_
  obtain⟨k,x,e3,e4⟩:=hit.2 j v (by rw[←e1];simp)
  have e5:(kvs.map (·.1))[j]? = some k:=by rw[aG,e3];rfl
  rw[hk,aG,e2]at e5
  cases e5
  rcases z0S (show y2e (Sum.inl n) v=true from e4)with⟨i,t,z1,z2⟩ | ⟨y,t,z1,z2⟩
  ·cases z1;exact⟨t,z2⟩
  ·cases z1
 have es:=Moved.eq_with mv
 refine wpAny_bind (wpAny_newList ?_)
 have hoL:(s1.heap.push (seqObj "list" acc.toList.toArray 0)).get? s1.heap.objs.size=some (seqObj "list" acc.toList.toArray 0):=Heap.get?_push_size _ rfl
 show wpAny _ _ _ _ _ { s1 with heap:=s1.heap.push (seqObj "list" acc.toList.toArray 0) }
 have h64':acc.toList.length<64:=by rw[bL,hit.1,hl];exact h64
 refine wpAny_bind (wpAny_holding (wpAny_call_entry slot_list_sort ⟨_,hoL,rfl⟩ entry_list_sort (list_sort_tree hoL hI h64' fun out ns' a1 a2 a3=>⟨_,rfl,?_⟩) (args_list_sort _)))
 obtain⟨e,he⟩:=sortedHeap_at (out:=out) hoL
 have fin:=h s1.heap _ s1.toks out.toList e ns' (fun b o' hb=>mv.heap b o' (fun z=>nomatch z) hb) (fun b o' hb=>?_) (by simpa[seqObj] using he) a1 a2 a3
 ·refine wpAny_pure ⟨_,rfl,?_⟩
  rw[es]
  exact fin
 ·have hlt:b<s1.heap.objs.size:=Heap.lt_size hb
  rw[sortedHeap_old (aE hlt) (by rw[size_push'];exact ck hlt)]
  exact Heap.get?_push_of_some _ hb
end
section
variable{X:Cx}
theorem y1J(hc:X.calm=true):z5r X (.builtin "sorted") (fun xs H Q=>∃(p:Addr) (kvs:List (Key×V)) (ns:List Int),xs=[.ref p]∧H p=some (.dK kvs)∧kvs.map (·.1)=ns.map Sum.inl∧ns.length<64∧∀l,H l=none->Q (.ref l) (upd H l (.lst ((y0p ns).map V.int)))):=by
 intro pins s σ H xs us Q I r h
 obtain⟨p,kvs,ns,rfl,hq,hk,h64,q⟩:=h
 obtain⟨u,rfl,rx⟩:=y0a r
 cases rx
 obtain⟨_,hs,vs,rel,dd⟩:=dk_of I.hok hq
 obtain⟨ep,da⟩:=dd.dictAt
 refine y2s (I.ok.hd hc) hs da (rel.keys.symm.trans hk) h64 fun h1 h' tk out e ns' k1 k2 ho hi hp hs'=>?_
 have es:=z9F hp hs'
 subst es
 have I1:Inv X pins σ H { s with heap:=h1 }:=I.kept (t':=s.toks) k1
 refine⟨.ref h1.objs.size,_,Inv.laid (s:={ s with heap:=h1 }) (t':=tk) I1 k2 (ar _) (show ObjOk X.prog X.w _ h' _ (.lst ((y0p ns).map V.int)) from⟨?_,out,e,intsV hi,ho⟩),rfl,q _ (I1.hok.fresh (ar _))⟩
 rw[ao,hp.length_eq,sizeLine_eq]
 omega
def z5P:List Key->Option (List Int)
 |[]=>some []
 |.inl n::r=>(z5P r).map fun ns=>n::ns
 |.inr _::_=>none
theorem z8G:∀{ks:List Key} {ns:List Int},z5P ks=some ns->ks=ns.map Sum.inl
 |[],_,h=>by cases h;rfl
 |.inl n::r,_,h=>by
  unfold z5P at h
  cases e:z5P r with
  |none=>rw[e]at h;cases h
  |some ns=>
   rw[e]at h
   cases h
   rw[aH,←z8G e]
 |.inr _::_,_,h=>by cases h
def y0G:List D->Option (List D)
 |[.dct ks _]=>(z5P ks).bind fun ns=>if ns.length<64 then some ((y0p ns).map .int)else none
 |_=>none
theorem x1W{K:aa}:OpL K (fun xs H Q=>∃(p:Addr) (kvs:List (Key×V)) (ns:List Int),xs=[.ref p]∧H p=some (.dK kvs)∧kvs.map (·.1)=ns.map Sum.inl∧ns.length<64∧∀l,H l=none->Q (.ref l) (upd H l (.lst ((y0p ns).map V.int)))) y0G:=by
 intro H B ds es vs Q hB hr q k
 unfold y0G at q
 split at q
 ·rename_i ks ds'
  cases e:z5P ks with
  |none=>rw[e]at q;cases q
  |some ns=>
   rw[e,aj]at q
   split at q
   ·rename_i h64
    cases q
    obtain⟨v,rfl,r⟩:=z5k hr
    unfold Rep at r
    obtain⟨a,kvs,rfl,_,h,hk,_⟩:=r
    exact⟨a,kvs,ns,rfl,h,by rw[hk,z8G e],h64,fun l hl=>k l _ _ (z0s hl) hl z0r (z1G _)⟩
   ·cases q
 ·cases q
variable{e:Expr}{f:DE}{p pos:Pos}
theorem y5y(hc:X.calm=true)(hg:Gl X "sorted")(hm:X.mg "sorted" = none)(h:PD X e f)(he:starEach [e] X.env=[(false,eval e X.env)]:=by rfl):PF X (.Call (.Name "sorted" p) [e] [] pos) (z1z y0G [f]):=
 (z5W (y1J hc) hg hm boot_sorted (z0a h z0d he) nofun nofun he rfl).imp (callL x1W)
end
def mkD1:D->D->Option D
 |.int a,.int b=>some (.dct [.inl a] [.int b])
 |_,_=>none
def y9p(fk fv:DE):DE:=d2 mkD1 fk fv
section
variable{X:Cx}{ke ve:Expr}{pos:Pos}{f g:DE}
theorem x1m(hk:PD X ke f)(hv:PD X ve g):PN X (.Dict [some ke] [ve] pos) (y9p f g):=(pe_disp (x0N hk hv pps_nil) rfl rfl (by simp) (by simp)).imp fun σ H Q ⟨δ,d,S,q,kk⟩=>by
 obtain⟨dx,dy,e1,e2,e3⟩:=z9Y q
 unfold mkD1 at e3
 split at e3
 ·rename_i a b
  cases e3
  intro p hp
  have s0:Same H (upd H p (.dK [])):=z0s hp
  refine⟨noB,δ,_,.no,S.mono s0,e1,fun v H2 s2 r2=>⟨noB,δ,_,.no,(S.mono s0).mono s2,e2,fun u H3 s3 r3=>?_⟩⟩
  unfold Rep at r2 r3
  subst r2 r3
  have hp3:H3 p=some (.dK []):=s3 _ _ (s2 _ _ z0r)
  refine⟨hp3,[(.inl a,.int b)],rfl,by simp,?_⟩
  refine kk (.ref p) _ [p] (fun c o ec=>?_) ?_ (aA.mpr ⟨fun z=>(nomatch z),aY⟩) fun c hc=>?_
  ·have hcp:c≠p:=fun z=>by rw[z,hp]at ec;cases ec
   rw[z0y hcp]
   exact s3 _ _ (s2 _ _ (s0 _ _ ec))
  ·unfold Tree
   refine⟨p,[(.inl a,.int b)],[],rfl,z0r,rfl,?_,rfl⟩
   unfold Trees
   exact⟨.int b,[],[],[],rfl,⟨rfl,rfl⟩,⟨rfl,rfl⟩,rfl⟩
  ·rw[ag.mp hc];exact hp
 ·cases e3
end
theorem y7N{lo hi:Int}:Builtin.Range.rangeSize lo hi (-1)=(((lo - hi).toNat:Nat):Int):=by
 unfold Builtin.Range.rangeSize
 rw[if_neg nofun]
 by_cases h:hi<lo
 ·rw[if_pos h]
  have:(lo - hi - 1) / 1=lo - hi - 1:=Int.ediv_one _
  simp only[Int.neg_neg]
  omega
 ·rw[if_neg h]
  omega
theorem y8j{a b:Int}(ha:-(2 ^ 61)≤a)(ha':a<2 ^ 61)(hb:-(2 ^ 61)≤b)(hb':b<2 ^ 61):Builtin.Range.small a b (-1)=true:=by
 unfold Builtin.Range.small
 rw[y7N]
 simp only[Builtin.Range.rangeFitsLong,aJ,Bool.or_eq_true,decide_eq_true_eq,beq_iff_eq]
 rw[if_neg nofun,aJ,decide_eq_true_eq,decide_eq_true_eq]
 omega
section
variable{X:Cx}{tg:Expr}
theorem y8O{pins:AO}{σ:St}{H:Hp}{s:dw}{R:It->Hp->Prop}{E:Value->dw->Prop}{lo hi:Int}{t u v:Tok}{tk:Nat}(I:Inv X pins σ H s)(h1:-(2 ^ 61)≤lo)(h2:lo<2 ^ 61)(h3:-(2 ^ 61)≤hi)(h4:hi<2 ^ 61)
  (q:R (Itr3 lo (-1) (lo - hi).toNat) H):wpAny (model X.prog X.w) X.A (pyIter (.ref s.heap.objs.size)) (PIE X pins σ tg R) E { s with heap:=s.heap.push { cls:=.type "range",data:=.fields #[.int lo t,.int hi u,.int (-1) v] },toks:=tk }:=by
 refine wpAny_pyIter_range (IsRange.new ..) (y8j h1 h2 h3 h4) ?_
 have I1:Inv X pins σ H { s with heap:=s.heap.push { cls:=.type "range",data:=.fields #[.int lo t,.int hi u,.int (-1) v] },toks:=tk }:=I.kept fun b o e=>Heap.get?_push_of_some _ e
 refine⟨(s.heap.push { cls:=.type "range",data:=.fields #[.int lo t,.int hi u,.int (-1) v] }).objs.size,[(s.heap.push { cls:=.type "range",data:=.fields #[.int lo t,.int hi u,.int (-1) v] }).objs.size],_,_,H,rfl,
  I1.kept (t':=tk) fun b o e=>Heap.get?_push_of_some _ e,y3h _ lo (-1) (lo - hi).toNat,?_,fun b hb=>?_,q⟩
 ·have e1:lo+((0:Nat):Int)*(-1)=lo:=by simp
  have e2:(((lo - hi).toNat:Nat):Int) - ((0:Nat):Int)=Builtin.Range.rangeSize lo hi (-1):=by rw[y7N];simp
  show IsRangeIter _ _ (lo+((0:Nat):Int)*(-1)) ((((lo - hi).toNat:Nat):Int) - ((0:Nat):Int)) (-1)
  rw[e1,e2]
  exact Heap.get?_push_size _ rfl
 ·have e:b=(s.heap.push { cls:=.type "range",data:=.fields #[.int lo t,.int hi u,.int (-1) v] }).objs.size:=by simpa using hb
  subst e
  exact I1.fpOk (ar _) (I1.hok.fresh (ar _))
def iRngN(ta:TA):TI:=fun σ H R=>ta σ H fun vs H1=>∃i j:Int,vs=[.int i,.int j,.int (-1)]∧(-(2 ^ 61)≤i∧i<2 ^ 61∧-(2 ^ 61)≤j∧j<2 ^ 61)∧R (Itr3 i (-1) (i - j).toNat) H1
theorem y6P{a b c:Expr}{ta:TA}{p pos:Pos}(hg:Gl X "range")(hm:X.mg "range" = none)(ha:PA X [a,b,c] ta)(hs:starEach [a,b,c] X.env=(false,eval a X.env)::starEach [b,c] X.env:=by rfl)(hpl:(fD pos (starEach [b,c] X.env)).any (·.1)=false:=by rfl):
  PI X tg (.Call (.Name "range" p) [a,b,c] [] pos) (iRngN ta):=by
 intro pins s σ H R I h
 refine Call_ (z3Y I hg hm boot_range (PyProof.Rows.callWith_type1 (thn (ha pos pins s σ H _ I h) fun us s1 ⟨vs,H1,I1,r1,q1⟩=>?_) hs hpl))
 obtain⟨i,j,e,hb,q⟩:=q1
 subst e
 obtain⟨u,v,w,rfl,⟨t1,rfl⟩,⟨t2,rfl⟩,⟨t3,rfl⟩⟩:=r1.three
 exact call_range_3 ⋯ (y8O I1 hb.1 hb.2.1 hb.2.2.1 hb.2.2.2 q) (.inl (PyProof.noPylong_small ⋯))
def rngN:Option D->Option D->Option D->Option (List D)
 |some (.int i),some (.int j),some (.int c)=>if c = -1∧-(2 ^ 61)≤i∧i<2 ^ 61∧-(2 ^ 61)≤j∧j<2 ^ 61 then some (y8I i (-1) (i - j).toNat)else none
 |_,_,_=>none
def x2k(f g h:DE):DS->Option (List D):=fun δ=>rngN (f δ) (g δ) (h δ)
theorem pi_rngN{a b c:Expr}{f g h:DE}{p pos:Pos}(hg:Gl X "range")(hm:X.mg "range" = none)(ha:PD X a f)(hb:PD X b g)(hc:PD X c h)(hs:starEach [a,b,c] X.env=(false,eval a X.env)::starEach [b,c] X.env:=by rfl)(hs2:starEach [b,c] X.env=(false,eval b X.env)::starEach [c] X.env:=by rfl)(hs3:starEach [c] X.env=[(false,eval c X.env)]:=by rfl)(hpl:(fD pos (starEach [b,c] X.env)).any (·.1)=false:=by rfl):
  PID X tg (.Call (.Name "range" p) [a,b,c] [] pos) (x2k f g h):=
 (y6P hg hm (z0a ha (z0a hb (z0a hc z0d hs3) hs2) hs) hs hpl).imp fun σ H R ⟨B,δ,ds,hB,S,q,k⟩=>by
  unfold x2k rngN at q
  split at q
  ·rename_i i j c e1 e2 e3
   split at q
   ·rename_i hj
    obtain⟨rfl,hj⟩:=hj
    cases q
    have ea:z0j [f,g,h] δ=some [.int i,.int j,.int (-1)]:=by unfold z0j z0j z0j;rw[e1,e2,e3];rfl
    refine⟨B,δ,[.int i,.int j,.int (-1)],hB,S,ea,fun vs H1 s1 r1=>?_⟩
    unfold Reps at r1
    obtain⟨x,r,rfl,rx,rr⟩:=r1
    unfold Reps at rr
    obtain⟨y,r',rfl,ry,rr⟩:=rr
    unfold Reps at rr
    obtain⟨z,r'',rfl,rz,rr⟩:=rr
    unfold Reps at rr
    subst rr
    exact⟨i,j,by rw[show x=V.int i from rx,show y=V.int j from ry,show z=V.int (-1) from rz],hj,k _ H1 s1 fun C _=>x0O⟩
   ·cases q
  ·cases q
end
theorem Trees.at{K:aa}{H:Hp}:∀{ds:List D} {xs:List V} {A:List Addr} {k:Nat} {d:D},Trees K H ds xs A->A.Nodup->ds[k]? = some d->∃v C,xs[k]? = some v∧Tree K H d v C∧C.Nodup∧∀a∈C,a∈A
 |[],_,_,_,_,_,_,e=>by cases e
 |d::ds,xs,A,k,d',h,nd,e=>by
  unfold Trees at h
  obtain⟨x,r,C,C',rfl,h1,h2,rfl⟩:=h
  have n2:=aO.mp nd
  cases k with
  |zero=>cases e;exact⟨x,C,rfl,h1,n2.1,fun a ha=>au.mpr (.inl ha)⟩
  |succ k=>
   obtain⟨v,D',e1,t1,nd1,sb⟩:=Trees.at (k:=k) h2 n2.2.1 (by simpa using e)
   exact⟨v,D',by simpa using e1,t1,nd1,fun a ha=>au.mpr (.inr (sb a ha))⟩
def ixL:D->D->Option D
 |.lst ds,.int i=>atI ds i
 |_,_=>none
section
variable{X:Cx}{a b:Expr}{pos:Pos}{f g:DE}
theorem pn_ixN(ha:PN X a f)(hb:PD X b g)(hs:z7V b:=by intro _ _;rfl):PN X (.Subscript a b pos) (d2 ixL f g):=(x2g x3i ha hb hs).imp fun σ H Q ⟨δ,d,S,q,k⟩=>by
 obtain⟨dx,dy,e1,e2,e3⟩:=z9Y q
 unfold ixL at e3
 split at e3
 ·rename_i ds i
  refine⟨δ,_,S,e1,fun v H1 A s1 t1 nd1 f1=>⟨noB,δ,_,.no,S.mono s1,e2,fun u H2 s2 r2=>?_⟩⟩
  unfold Rep at r2
  subst r2
  have t2:=t1.mono s2
  unfold Tree at t2
  obtain⟨p,xs,C,rfl,hp,ts,rfl⟩:=t2
  have hl:=ts.len
  unfold atI at e3
  cases e4:ixN ds.length i with
  |none=>rw[e4]at e3;cases e3
  |some j=>
   rw[e4]at e3
   obtain⟨v',C',e5,t5,nd5,sb⟩:=ts.at (aA.mp nd1).2 (show ds[j]? = some d from e3)
   have e6:atI xs i=some v':=by
    unfold atI
    rw[←hl,e4]
    exact e5
   exact .inl ⟨p,xs,i,v',rfl,rfl,SqL.of hp,e6,k v' H2 C' (s1.trans s2) t5 nd5 fun a ha=>f1 a (ae _ (sb a ha))⟩
 ·cases e3
end
def twoD:D->Option (D×D)
 |.tup [a,b]=>some (a,b)
 |_=>none
theorem y7X{d:D}{z:D×D}(h:twoD d=some z):d = .tup [z.1,z.2]:=by
 unfold twoD at h
 split at h
 ·cases h;rfl
 ·cases h
def z5m(i j:Nat)(b:SS->Option Out):List D->SS->Option Out
 |[],δ=>some (.nx δ)
 |d::r,δ=>(twoD d).bind fun z=>(b ((δ.set i (some (.sh z.1))).set j (some (.sh z.2)))).bind fun o=>match o with
  |.nx δ'=>z5m i j b r δ'
  |.ct δ'=>z5m i j b r δ'
  |.bk δ'=>some (.nx δ')
  |.rt d=>some (.rt d)
  |.rb d δ'=>some (.rb d δ')
  |.ex c δ'=>some (.ex c δ')
def y6s(i j:Nat)(f:DS->Option (List D))(g:SS->Option Out):SS->Option Out:=fun δ=>(f (shV δ)).bind fun ds=>z5m i j g ds δ
section
variable{X:Cx}{H0:Hp}{B0:Addr->Prop}{fr:Bool}{RX:XR}{pos:Pos}
def gPair(K:aa)(i j:Nat):TG:=gTup K 2 (y6y (z2w i) (y6y (z2w j) gNil))
theorem x3j{i j:Nat}{tg:Expr}{iter:Expr}{body:List Stmt}{f:DS->Option (List D)}{g:SS->Option Out}(hp:PassesOwn (model X.prog X.w) X.A X.env X.xe)(hc:X.calm=true)(hi:PID X tg iter f)(hg:PG X tg (gPair X.K i j))(hb:PSs X body (tS X.K H0 B0 fr RX g))
  (hs:∀x,foldedSetIterable iter X.env x=pure x:=by intro _;rfl):PS X (.For tg iter body [] pos) (tS X.K H0 B0 fr RX (y6s i j f g)):=PS.imp (y9D hp hc hi hg hb hs) fun D σ H ⟨δ,R,o,rs,q,k⟩=>by
 unfold y6s at q
 cases e:f (shV δ)with
 |none=>rw[e]at q;cases q
 |some ds=>
 rw[e]at q
 have q:z5m i j g ds δ=some o:=q
 refine⟨_,shV δ,ds,rs.inAll,rs.shr,e,fun J H1 s1 itw=>?_⟩
 have rs1:=rs.mono s1
 have it:=itw (fun a=>H1 a=none) fun a z=>z
 refine⟨fun n m σ' H'=>m=ds.length - n∧n≤ds.length∧∃δ' R',RS X.K H0 B0 H' σ' δ' R'∧Stp R H1 R' H'∧z5m i j g (ds.drop n) δ'=some o,⟨ds.length,by simp,bn _,δ,R,rs1,.refl R H1,q⟩,?_⟩
 rintro n m σ' H' ⟨rfl,hn,δ',R',rs',s',q'⟩
 have kp:Keep X.K (fun a=>(B0 a∨∃r,a∈R r)∨H1 a=none) H1 H':=s'.keepB (fun r a z=>.inl (.inr ⟨r,z⟩)) rs1.held
 by_cases hlt:n<ds.length
 ·have hx:ds.drop n=ds[n]::ds.drop (n+1):=bb hlt
  rw[hx]at q'
  unfold z5m at q'
  cases et:twoD ds[n]with
  |none=>rw[et]at q';cases q'
  |some z=>
  rw[et,aj]at q'
  cases eb:g ((δ'.set i (some (.sh z.1))).set j (some (.sh z.2)))with
  |none=>rw[eb]at q';cases q'
  |some ob=>
   rw[eb]at q'
   refine .inr ⟨it.go n H' kp hlt,fun σ2 H2=>n+1≤ds.length∧∃δ2 R2,RS X.K H0 B0 H2 σ2 δ2 R2∧Stp R H1 R2 H2∧z5m i j g (ds.drop (n+1)) δ2=some o,fun σ2 H2 z=>⟨ds.length - (n+1),by omega,rfl,z⟩,fun xv H2 hy=>?_⟩
   obtain⟨s2,d,hd,rd⟩:=it.yld n H' xv H2 kp hy
   have hdi:d=ds[n]:=by
    have:=hd hlt
    rw[am hlt]at this
    exact(Option.some.inj this).symm
   subst hdi
   have rd':Rep X.K H2 (fun a=>B0 a∨∃r,a∈R' r) ds[n] xv:=rd.anti fun a z=>by
    rcases z with z | ⟨r,z⟩
    ·exact .inl (.inl z)
    ·rcases s'.from' r a z with z | z
     ·exact .inl (.inr z)
     ·exact .inr z
   rw[y7X et]at rd'
   unfold Rep at rd'
   obtain⟨p,vs,rfl,hsq,rvs⟩:=rd'
   unfold Reps at rvs
   obtain⟨va,r1,rfl,ra,rvs⟩:=rvs
   unfold Reps at rvs
   obtain⟨vb,r2,rfl,rb,rvs⟩:=rvs
   unfold Reps at rvs
   subst rvs
   refine⟨p,[va,vb],rfl,hsq,rfl,va,[vb],rfl,vb,[],rfl,rfl,?_⟩
   have rs2:=((rs'.mono s2).setSh (i:=i) ra).setSh (i:=j) rb
   have st2:Stp R H1 R' H2:=s'.trans (.same s2)
   refine⟨_,R',ob,rs2,eb,?_⟩
   cases ob with
   |nx δ2=>
    have q2:z5m i j g (ds.drop (n+1)) δ2=some o:=q'
    exact fun σ3 H3 R3 rs3 s3=>⟨hlt,δ2,R3,rs3,st2.trans s3,q2⟩
   |ct δ2=>
    have q2:z5m i j g (ds.drop (n+1)) δ2=some o:=q'
    exact fun σ3 H3 R3 rs3 s3=>⟨hlt,δ2,R3,rs3,st2.trans s3,q2⟩
   |bk δ2=>
    cases q'
    exact fun σ3 H3 R3 rs3 s3=>k σ3 H3 R3 rs3 ((Stp.same s1).trans (st2.trans s3))
   |rt d=>
    cases q'
    exact k.back ((Stp.same s1).trans st2)
   |rb d δ2=>
    cases q'
    exact k.back ((Stp.same s1).trans st2)
   |ex c δ2=>
    cases q'
    exact k.back ((Stp.same s1).trans st2)
 ·have en:n=ds.length:=by omega
  subst en
  rw[cC]at q'
  cases q'
  exact .inl ⟨it.stop _ H' kp (ar _),k σ' H' R' rs' ((Stp.same s1).trans s')⟩
theorem y7G{i j:Nat}{x y:Str}{px py tp:Pos}{x1}(hc:X.calm=true)(h1:PG X (.Name x px) (z2w i))(h2:PG X (.Name y py) (z2w j))
  (hs:(fA [.Name x px,.Name y py] X.env).map (·.2)=fF (.Name x px) X.env::(fA [.Name y py] X.env).map (·.2):=by rfl) (hs2:(fA [.Name y py] X.env).map (·.2)=fF (.Name y py) X.env::(fA [] X.env).map (·.2):=by rfl)
  (hn:(fA [.Name x px,.Name y py] X.env).length=2:=by rfl) (hst:(fA [.Name x px,.Name y py] X.env).findIdx? (·.1)=none:=by rfl):PG X (.Tuple [.Name x px,.Name y py] x1 tp) (gPair X.K i j):=
 x2L hc (z6Y h1 (z6Y h2 y6Z hs2) hs) hn hst
end
def bst(ns:List Int):Nat->Nat
 |0=>0
 |k+1=>if decide (ns.getD (k+1) 0<ns.getD (bst ns k) 0)=true then k+1 else bst ns k
def mnI(ns:List Int):Int:=ns.getD (bst ns (ns.length - 1)) 0
theorem y3Q{bt:Nat->Nat->Bool}{ns:List Int}(h:∀i j,bt i j=decide (ns.getD i 0<ns.getD j 0)):∀k,argBest bt k=bst ns k
 |0=>rfl
 |k+1=>by
  unfold argBest bst
  rw[y3Q h k,h]
section
variable{X:Cx}
theorem y8Q(hc:X.calm=true):z5r X (.builtin "min") (fun xs H Q=>∃(p:Addr) (ns:List Int),xs=[.ref p]∧SqL X.K H p (ns.map V.int)∧ns≠[]∧Q (.int (mnI ns)) H):=by
 intro pins s σ H xs us Q I r h
 obtain⟨p,ns,rfl,hq,hne,q⟩:=h
 obtain⟨u,rfl,ru⟩:=y0a r
 cases ru
 obtain⟨its,rv,pl,hz⟩:=I.list hq
 have hi:=y5K rv
 obtain⟨xs,hx⟩:=hi.allInts.items
 have hl':s.heap.IsList p (intItems xs):=hx ▸ pl.isList
 have e1:ns=xs.toList.map (·.1):=by
  rw[←nums_intItems,←hx]
  exact(show numsOf its.toArray.toList=ns from hi.numsOf).symm
 have hsz:xs.size=ns.length:=by rw[e1];simp
 have hp:0<ns.length:=b9.mpr hne
 refine min_intList (I.ok.hd hc) hl' ⋯ fun v h' tk hv hk=>?_
 have eb:argBest (fun i j=>decide (numAt xs i<numAt xs j)) (xs.size - 1)=bst ns (ns.length - 1):=by
  rw[hsz]
  refine y3Q (fun i j=>?_) _
  have en:∀k,numAt xs k=ns.getD k 0:=fun k=>by
   rw[e1]
   unfold numAt
   simp[cf]
  rw[en,en]
 rw[eb]at hv
 obtain⟨t,rfl⟩:=intItems_at hv
 have en:numAt xs (bst ns (ns.length - 1))=mnI ns:=by
  unfold mnI
  rw[e1]
  unfold numAt
  simp[cf]
 exact⟨.int _,H,I.kept hk,⟨t,by rw[en]⟩,q⟩
def x0j:List D->Option D
 |[.lst ds]=>(z2O ds).bind fun ns=>if ns.isEmpty=true then none else some (.int (mnI ns))
 |_=>none
theorem oa_minL{K:aa}:OpA K (fun xs H Q=>∃(p:Addr) (ns:List Int),xs=[.ref p]∧SqL K H p (ns.map V.int)∧ns≠[]∧Q (.int (mnI ns)) H) x0j:=by
 intro H B ds d vs Q hB hr q k
 unfold x0j at q
 split at q
 ·rename_i es
  cases e:z2O es with
  |none=>rw[e]at q;cases q
  |some bs=>
   rw[e,aj]at q
   split at q
   ·cases q
   ·rename_i hn
    cases q
    obtain⟨v,rfl,r⟩:=z5k hr
    unfold Rep at r
    obtain⟨a,xs,rfl,_,h,rs⟩:=r
    rw[y1d e rs]at h
    exact⟨a,bs,rfl,SqL.of h,fun z=>hn (by rw[z];rfl),k _ H (.refl H) rfl⟩
 ·cases q
variable{e:Expr}{f:DE}{p pos:Pos}
theorem pd_minL(hc:X.calm=true)(hg:Gl X "min")(hm:X.mg "min" = none)(h:PD X e f)(he:starEach [e] X.env=[(false,eval e X.env)]:=by rfl):PD X (.Call (.Name "min" p) [e] [] pos) (z0k x0j [f]):=
 z9V (y8Q hc) oa_minL hg hm boot_min (z0a h z0d he) nofun nofun he rfl
end
section
end
def bigL:Nat:=2 ^ 250
def CMulB(i j:Int):Prop:=i.natAbs<bigL∧j.natAbs<bigL
instance{i j:Int}:Decidable (CMulB i j):=by unfold CMulB;infer_instance
section
end
section
structure ItF(J:It)(lo:Int)(n:Nat):Prop where
 go:∀i H',i<n->J.go i H'
 stop:∀i H',n≤i->J.stop i H'
 yld:∀i H' x H2,J.yld i H' x H2->Same H' H2∧x = .int (lo+(i:Int))
end
section
end
end L2
namespace HT
open PySem PySem.Spec PyProof.Rows
section
end
end HT
namespace L2
open PySem PySem.Spec PyProof.Rows
section
end
end L2
namespace PySem
namespace SetTable
def Up(xs:Array Nat):Prop:=xs.toList.Pairwise (· < ·)
end SetTable
def TI(t:SetTable):Prop:=t.led=true∧(t.plain=true->SetTable.Up t.place)
end PySem
namespace PySem
section
variable{prog:fw}{w:fx}{K:Type}[DecidableEq K](knd:KeyKind prog w K)
variable{knd}
end
section
open PyProof.Rows in
end
end PySem
namespace PySem
section
open PyProof.Rows in
set_option maxHeartbeats 3200000 in
open PyProof.Rows in
end
end PySem
namespace PySem
section
end
section
end
end PySem
namespace PySem
section
end
end PySem
namespace PySem
section
end
end PySem
namespace PySem
open Sem (wp)
section
variable{K:Type}[DecidableEq K]
end
end PySem
namespace L2
open PySem PySem.Spec PyProof.Rows
section
end
section
end
section
variable{X:Cx}{a b:Expr}{pos:Pos}{f g:DE}
def rCatL(K:aa):R2:=fun x y H Q=>∃l b xs zs,x = .ref l∧y = .ref b∧SqL K H l xs∧SqL K H b zs∧xs.length+zs.length≤sizeLine∧∀p,H p=none->Q (.ref p) (upd H p (.lst (xs++zs)))
theorem op_catL:OpR X (binaryOp .Add) (rCatL X.K):=by
 intro pins s σ H x y v u Q I rx ry h
 obtain⟨l,b,xs,zs,rfl,rfl,hH,hB,hz,q⟩:=h
 cases rx
 cases ry
 obtain⟨its,r,⟨o1,n1,e1,c1,d1,g1⟩,z1⟩:=I.list hH
 obtain⟨its2,r2,⟨o2,n2,e2,c2,d2,g2⟩,z2⟩:=I.list hB
 have hl:=r.length
 have hl2:=r2.length
 obtain⟨cls,dd,data,sl⟩:=o1
 obtain⟨cls2,dd2,data2,sl2⟩:=o2
 simp only at c1 d1 g1 c2 d2 g2
 subst c1 d1 g1 c2 d2 g2
 refine concat_meets ⟨_,e1,rfl⟩ ⟨_,e2,rfl⟩ noFill_list_add seq_list_add PySem.F.slot_list_add PySem.F.entry_list_add (PySem.F.args_list_add_2 _ _) (list_addW l b its.toArray its2.toArray n1 n2 none none sl sl2 (by rw[ay,ay];omega)) ⟨e1,e2,?_⟩
 have ea:its.toArray++its2.toArray=(its++its2).toArray:=by simp
 rw[ea]
 exact⟨.ref _,_,I.lnew (t':=s.toks) (r.append r2) (by rw[aB];omega),rfl,q _ I.fresh⟩
def seqL:D->Option (List D)
 |.lst ds=>some ds
 |.scr ns=>some (ns.map .int)
 |_=>none
def catSs:D->D->Option (List D):=fun x y=>(seqL x).bind fun ds=>(seqL y).bind fun es=>if ds.length+es.length≤sizeLine then some (ds++es)else none
def z7Q(f g:DE):DS->Option (List D):=fun δ=>(f δ).bind fun x=>(g δ).bind fun y=>catSs x y
theorem y3K{K:aa}{H:Hp}{B:Addr->Prop}{d:D}{ds:List D}{v:V}(h:Rep K H B d v)(e:seqL d=some ds):∃p vs,v = .ref p∧(∀H',Same H H'->SqL K H' p vs)∧Reps K H B ds vs:=by
 unfold seqL at e
 split at e
 ·cases e
  unfold Rep at h
  obtain⟨p,vs,rfl,_,hq,rs⟩:=h
  exact⟨p,vs,rfl,fun H' s=>SqL.of (s _ _ hq),rs⟩
 ·cases e
  unfold Rep at h
  obtain⟨p,rfl,hq⟩:=h
  exact⟨p,_,rfl,fun H' s=>(s.sf hq).sq,z1G _⟩
 ·cases e
theorem z9y(ha:PD X a f)(hb:PD X b g):PF X (.BinOp a .Add b pos) (z7Q f g):=(x1t op_catL ha hb).imp fun σ H Q ⟨B,δ,ds,hB,S,q,k⟩=>by
 unfold z7Q at q
 cases e1:f δ with
 |none=>rw[e1]at q;cases q
 |some x=>
 rw[e1,aj]at q
 cases e2:g δ with
 |none=>rw[e2]at q;cases q
 |some y=>
 rw[e2,aj]at q
 unfold catSs at q
 cases e3:seqL x with
 |none=>rw[e3]at q;cases q
 |some xs=>
 rw[e3,aj]at q
 cases e4:seqL y with
 |none=>rw[e4]at q;cases q
 |some ys=>
 rw[e4,aj]at q
 split at q
 case isFalse=>cases q
 case isTrue hl=>
 cases q
 refine⟨B,δ,_,hB,S,e1,fun v H1 s1 r1=>⟨B,δ,_,hB.mono s1,S.mono s1,e2,fun v2 H2 s2 r2=>?_⟩⟩
 obtain⟨p1,vs,rfl,h1,rs1⟩:=y3K r1 e3
 obtain⟨p2,ws,rfl,h2,rs2⟩:=y3K r2 e4
 refine⟨p1,p2,vs,ws,rfl,rfl,h1 _ s2,h2 _ (.refl _),by rw[←rs1.length,←rs2.length];exact hl,fun p hp=>?_⟩
 exact k p _ _ ((s1.trans s2).trans (z0s hp)) ((s1.trans s2).free hp) z0r (((rs1.mono s2).append rs2).mono (z0s hp))
end
section
end
section
end
section
end
section
end
section
end
section
end
def spM2(K:aa)(F:List D->Option D):Sp:=fun vs H Q _=>∃u v r du d0 ds d A,vs=u::v::r∧Rep K H (fun a=>a∈A) du u∧Tree K H d0 v A∧A.Nodup∧Reps K H (fun a=>a∈A) ds r∧F (du::d0::ds)=some d ∧
 ∀v' H' A',Same (y3f H A) H'->Tree K H' d v' A'->A'.Nodup->(∀a∈A',a∈A∨H a=none)->(∀a,H' a=none->H a=none)->Q v' H'
def y2C(np nl:Nat)(g:SS->Option Out):List D->Option D:=fun ds=>match ds with
 |du::d0::ds=>if ds.length+2=np then(match g (some (.sh du)::some (.ow d0)::ds.map (fun d=>some (.sh d))++ad nl none)with
  |some (.rt d)=>some d
  |some (.nx _)=>some .non
  |_=>none)else none
 |_=>none
theorem y5A{K:aa}{H:Hp}{du d0:D}{u v:V}{A:List Addr}{ds:List D}{vs:List V}{N:List Str}{nl:Nat}(ru:Rep K H (fun a=>a∈A) du u)(t:Tree K H d0 v A)(nd:A.Nodup)(r:Reps K H (fun a=>a∈A) ds vs)(hN:N.length=ds.length+2+nl):
  RS K (y3f H A) noB H (z4O N (u::v::vs)) (some (.sh du)::some (.ow d0)::ds.map (fun d=>some (.sh d))++ad nl none) (fun r=>if r=1 then A else []):=by
 have hl:=r.length
 have get:∀{i:Nat} {x:SD},(some (SD.sh du)::some (SD.ow d0)::ds.map (fun d=>some (SD.sh d))++ad nl none)[i]? = some (some x)->(i=0∧x = .sh du)∨(i=1∧x = .ow d0)∨∃j d,i=j+2∧ds[j]? = some d∧x = .sh d:=fun {i x} e=>by
  cases i with
  |zero=>simp at e;exact .inl ⟨rfl,e.symm⟩
  |succ i=>
  cases i with
  |zero=>simp at e;exact .inr (.inl ⟨rfl,e.symm⟩)
  |succ j=>
   have e':(ds.map (fun d=>some (SD.sh d))++ad nl none)[j]? = some (some x):=by simpa using e
   by_cases hi:j<ds.length
   ·rw[aZ (by simpa using hi),aG,am hi]at e'
    cases e'
    exact .inr (.inr ⟨j,ds[j],rfl,am hi,rfl⟩)
   ·rw[bh (by simpa using hi),bq]at e'
    split at e' <;> cases e'
 have mem:∀r a,a∈(if r=1 then A else [])->r=1∧a∈A:=fun r a z=>by
  split at z
  ·exact⟨by assumption,z⟩
  ·cases z
 refine⟨y5w,(fun _ z=>z.elim),?_,fun r a z=>y3w (mem r a z).2,fun r a z=>t.held d0 a (mem r a z).2,fun r s a z z'=>by rw[(mem r a z).1,(mem s a z').1],fun i d e=>?_,fun i r d e=>?_,fun i d e=>?_⟩
 ·unfold z4O
  simp
  omega
 ·rcases get e with⟨rfl,q⟩ | ⟨_,q⟩ | ⟨j,d',rfl,e1,q⟩
  ·cases q
   refine⟨u,?_,ru.anti fun a z=>?_⟩
   ·unfold z4O
    simp
   ·rcases z with z | ⟨r,z⟩
    ·exact z.elim
    ·exact(mem r a z).2
  ·cases q
  ·cases q
   obtain⟨u',e3,rv⟩:=r.get e1
   refine⟨u',?_,rv.anti fun a z=>?_⟩
   ·unfold z4O
    have hi:j<vs.length:=(aL.mp e3).1
    rw[aZ (by simp;omega),aG]
    simp[e3]
   ·rcases z with z | ⟨r,z⟩
    ·exact z.elim
    ·exact(mem r a z).2
 ·rcases get e with⟨_,q⟩ | ⟨_,q⟩ | ⟨j,d',rfl,e1,q⟩ <;> cases q
 ·rcases get e with⟨_,q⟩ | ⟨rfl,q⟩ | ⟨j,d',rfl,e1,q⟩
  ·cases q
  ·cases q
   refine⟨v,?_,t,nd⟩
   unfold z4O
   simp
  ·cases q
section
variable{P:fw}{w:fx}{K:aa}{mg:Str->Option Value}{base:Heap}
theorem defM2{x qual:Str}{st:Stmt}{f:Addr}{fd:fy}{N ps:List Str}{k np nl:Nat}{g:SS->Option Out}(F:Fun K x qual st f fd)(hm:mg x=some (.ref f))(hb:Binds K fd ps [])(S:FnScope N ps (z0g st))(hnp:ps.length=np)(hN:N.length=np+nl)
  (hbody:∀(cdv:Value) (A:Around) (outer:List Env) (s:dw) (H H0:Hp) (E:XK),Room k (A.deeper (envOfC qual (z0g st) s.heap.objs.size f cdv)) →
   PSs (z8p CX0 P w K mg base N qual (z0g st) f cdv A outer s H E).nox (z0X st) (tS K H0 noB true noX g)):DefOk P w K mg base (k+1) x (spM2 K (y2C np nl g)):=by
 refine⟨f,fd,ps,hm,F.kp,hb,F.ok S (fun vs H Q E h=>?_) fun cdv A outer s H vs Q E hr h=>?_⟩
 ·obtain⟨u,v,r,du,d0,ds,d,A,rfl,_,_,_,rr,e,_⟩:=h
  unfold y2C at e
  simp only at e
  split at e
  ·rename_i hl
   rw[bc,bc,←rr.length,hnp]
   omega
  ·cases e
 ·obtain⟨u,v,r,du,d0,ds,d,A',rfl,ru,t,nd,rr,e,kk⟩:=h
  refine⟨_,hbody cdv A outer s H (y3f H A') E hr,?_⟩
  have hl:ds.length+2=np:=by
   unfold y2C at e
   simp only at e
   split at e
   ·assumption
   ·cases e
  have e':(match g (some (.sh du)::some (.ow d0)::ds.map (fun d=>some (.sh d))++ad nl none)with | some (.rt d)=>some d | some (.nx _)=>some D.non | _=>none)=some d:=by
   unfold y2C at e
   simp only[if_pos hl]at e
   exact e
  have rs:=y5A (nl:=nl) (N:=N) ru t nd rr ⋯
  have fr:∀a,y3f H A' a=none->a∈A'∨H a=none:=fun a z=>by
   by_cases h:a∈A'
   ·exact .inl h
   ·rw[z7s h]at z;exact .inr z
  split at e'
  ·rename_i d' eg
   cases e'
   exact⟨_,_,_,rs,eg,fun v H' z th=>by
    obtain⟨A2,t2,nd2,fr2⟩:=z.2.1 rfl
    exact kk v H' A2 z.1 t2 nd2 (fun a ha=>fr a (fr2 a ha)) th⟩
  ·rename_i δ' eg
   cases e'
   exact⟨_,_,_,rs,eg,fun σ' H' R' rs' st'=>kk .non H' [] rs'.keep ⟨rfl,rfl⟩ aY (fun a z=>nomatch z) st'.there⟩
  ·cases e'
end
def z7H(F:List D->Option D)(f0 f1:DE)(fl:List DE):DE:=fun δ=>(f0 δ).bind fun a=>(f1 δ).bind fun b=>(z0j fl δ).bind fun cs=>F (a::b::cs)
section
variable{X:Cx}{k:Nat}{x:Str}{p pos:Pos}{e e':Expr}{es:List Expr}
theorem y1e{F:List D->Option D}{f0 f1:DE}{fl:List DE}(G:DefOk X.prog X.w X.K X.mg X.base k x (spM2 X.K F))(hr:Room k X.A)(hg:Gl X x)(h0:PD X e f0)(h1:PN X e' f1)(ha:PAD X es fl)(hdb:(x==("__debug__" : Str))=false:=by decide)
  (he:starEach (e::e'::es) X.env=(false,eval e X.env)::starEach (e'::es) X.env:=by rfl) (he1:starEach (e'::es) X.env=(false,eval e' X.env)::starEach es X.env:=by rfl) (hpl:(fD pos (starEach (e'::es) X.env)).any (·.1)=false:=by rfl):PN X (.Call (.Name x p) (e::e'::es) [] pos) (z7H F f0 f1 fl):=
 (y0g G hr hg (z1e h0 (z1e h1 ha he1) he) hdb he hpl).imp fun σ H Q ⟨δ,d,S,q,k⟩=>by
  unfold z7H at q
  cases e0:f0 δ with
  |none=>rw[e0]at q;cases q
  |some a=>
  cases e1:f1 δ with
  |none=>rw[e0,e1]at q;cases q
  |some b=>
  cases e2:z0j fl δ with
  |none=>rw[e0,e1,e2]at q;cases q
  |some cs=>
  rw[e0,e1,e2]at q
  have q:F (a::b::cs)=some d:=q
  refine⟨noB,δ,a,.no,S,e0,fun u H1 s1 r1=>⟨δ,b,S.mono s1,e1,fun v H2 A s2 t2 nd2 f2=>?_⟩⟩
  have S2:RepS X.K H2 (fun x=>x∈A) σ δ:=((RepS.wide (C:=fun x=>x∈A) (S.mono s1) f2).anti fun x z=>.inr z).mono s2
  refine⟨fun x=>x∈A,δ,cs,fun x z=>?_,S2,e2,fun vs H3 s3 r3=>?_⟩
  ·obtain⟨o,qo,_⟩:=t2.held b x z
   exact⟨o,qo⟩
  show spM2 X.K F ((u::v::vs)++[]) H3 Q E0
  rw[aF]
  have ru:Rep X.K H3 (fun x=>x∈A) a u:=((Rep.wide (C:=fun x=>x∈A) f2 a r1).anti fun x z=>.inr z).mono (s2.trans s3)
  refine⟨u,v,vs,a,b,cs,d,A,rfl,ru,t2.mono s3,nd2,r3,q,fun v' H' A' s' t' nd' fr' th'=>?_⟩
  refine k v' H' A' (fun x o ex=>?_) t' nd' fun x hx=>?_
  ·refine s' x o ?_
   have ex1:=s1 x o ex
   rw[z7s fun z=>by rw[f2 x z]at ex1;cases ex1]
   exact s3 x o (s2 x o ex1)
  ·rcases fr' x hx with z | z
   ·exact s1.free (f2 x z)
   ·exact s1.free (s2.free (s3.free z))
variable{H0:Hp}{B0:Addr->Prop}{RX:XR}{a:Expr}{pos':Pos}
def ret1(i:Nat):SS->Option Out:=fun δ=>(y7z δ i).map fun d=>.rt (.lst [d])
theorem s_ret1{i:Nat}(ha:PE X a (y1a i))(hs:starEach [a] X.env=(false,eval a X.env)::starEach [] X.env:=by rfl):
  PS X (.Return (some (.List [a] pos')) pos) (tS X.K H0 B0 true RX (ret1 i)):=PS.imp (y0M (y6t (z1e ha pa_nil hs))) fun D σ H ⟨δ,R,o,rs,q,k⟩=>by
 unfold ret1 at q
 cases h1:y7z δ i with
 |none=>rw[h1]at q;cases q
 |some d=>
  rw[h1]at q
  cases q
  obtain⟨v,A,e1,t1,n1,m1⟩:=x1L rs h1
  refine⟨v,e1,by show 1≤sizeLine;rw[sizeLine_eq];omega,fun p hp=>?_⟩
  have sp:=z0s (o:=.lst [v]) hp
  have hold:∀x,x∈A->H x≠none:=fun x hx z=>by
   obtain⟨o,q,_⟩:=t1.held _ x hx
   rw[z]at q;cases q
  refine k (.ref p) _ ⟨rs.keep.trans sp,fun _=>⟨p::A,?_,aA.mpr ⟨fun z=>hold p z hp,n1⟩,fun x hx=>?_⟩,fun z=>by cases z⟩ fun x z=>sp.free z
  ·unfold Tree
   refine⟨p,[v],A,rfl,z0r,?_,rfl⟩
   unfold Trees
   exact⟨v,[],A,[],rfl,t1.mono sp,⟨rfl,rfl⟩,by simp⟩
  ·rcases ai.mp hx with z | z
   ·rw[z];exact rs.keep.free hp
   ·exact rs.new i x (m1 x z)
end
theorem se_list{es' es:List Expr}{pos:Pos}{env:Env}:starEach (.List es' pos::es) env=(false,eval (.List es' pos) env)::starEach es env:=rfl
section
end
section
end
def litI:Expr->Option Int
 |.Constant (.int i) _ _=>some i
 |_=>none
def y5L:List Expr->Option (List Int)
 |[]=>some []
 |e::es=>match litI e,y5L es with
  |some n,some ns=>some (n::ns)
  |_,_=>none
section
variable{X:Cx}
theorem x2r{c:Const}{k:Nat}{es:List Expr}{p:Pos}{env:Env}:starEach (.Constant c k p::es) env=(false,eval (.Constant c k p) env)::starEach es env:=rfl
theorem y6F:∀{es:List Expr} {ns:List Int},y5L es=some ns->PAD X es (ns.map fun n=>dC (.int n))
 |[],_,h=>by cases h;exact z0d
 |e::es,ns,h=>by
  unfold y5L at h
  split at h
  case h_2=>cases h
  case h_1 n ns' e1 e2=>
  cases h
  unfold litI at e1
  split at e1
  case h_2=>cases e1
  case h_1=>cases e1;exact z0a z0i (y6F e2) x2r
theorem y4S(δ:DS):∀ns:List Int,z0j (ns.map fun n=>dC (.int n)) δ=some (ns.map .int)
 |[]=>rfl
 |n::ns=>by
  have ih:=y4S δ ns
  show((some (D.int n)).bind fun x=>(z0j (ns.map fun n=>dC (.int n)) δ).bind fun xs=>some (x::xs))=_
  rw[ih]
  rfl
variable{H0:Hp}{B0:Addr->Prop}{fr:Bool}{RX:XR}
@[irreducible] def PSb(X:Cx)(st:Stmt)(t:TS):Prop:=PS X st t
@[irreducible] def PSsb(X:Cx)(st:List Stmt)(t:TS):Prop:=PSs X st t
theorem x0y{st:Stmt}{sts:List Stmt}{g h:SS->Option Out}(h1:PSb X st (tS X.K H0 B0 fr RX g))(h2:PSs X sts (tS X.K H0 B0 fr RX h)):PSsb X (st::sts) (tS X.K H0 B0 fr RX (z0E g h)):=by
 unfold PSb at h1
 unfold PSsb
 exact z0f h1 h2
end
section
variable{P:fw}{w:fx}{K:aa}{mg:Str->Option Value}{base:Heap}
theorem defNb{x qual:Str}{st:Stmt}{f:Addr}{fd:fy}{N ps:List Str}{k np nl:Nat}{g:SS->Option Out}(F:Fun K x qual st f fd)(hm:mg x=some (.ref f))(hb:Binds K fd ps [])(S:FnScope N ps (z0g st))(hnp:ps.length=np)(hN:N.length=np+nl)
  (hbody:∀(cdv:Value) (A:Around) (outer:List Env) (s:dw) (H:Hp) (E:XK),Room k (A.deeper (envOfC qual (z0g st) s.heap.objs.size f cdv)) →
   PSsb (z8p CX0 P w K mg base N qual (z0g st) f cdv A outer s H E).nox (z0X st) (tS K H noB true noX g)):DefOk P w K mg base (k+1) x (spN K (z2g np nl g)):=
 z4P F hm hb S hnp hN fun cdv A outer s H E hr=>by
  have z:=hbody cdv A outer s H E hr
  unfold PSsb at z
  exact z
end
section
end
section
variable{X:Cx}{H0:Hp}{B0:Addr->Prop}{fr:Bool}{RX:XR}{e:Expr}{f:DE}{pos ap cp:Pos}{x:Str}{px:Pos}
def y8m(i:Nat)(f:DE):SS->Option Out:=fun δ=>(f (z0w δ)).bind fun d=>(match d,δ[i]? with
 |.lst es,some (some (.ow (.lst ds)))=>if z2d es=true∧ds.length+es.length≤sizeLine then some (.nx ((z0M i δ).set i (some (.ow (.lst (ds++es))))))else none
 |_,_=>none)
theorem y8J{i:Nat}(hx:PE X (.Name x px) (y1a i))(he:PD X e f)(hbase:fG (.Name x px) "extend" X.env (eval (.Name x px) X.env)=eval (.Name x px) X.env:=by rfl)
  (hfew:((fD cp (starEach [e] X.env)).all (fun x=>!x.1)&&(backToKw cp (keywordEach [] X.env)).all (fun x=>x.1.isSome)&&decide ([e].length+([]:List fH).length+(if([]:List fH).isEmpty then 0 else 1)<30))=true:=by rfl)
  (hline:(ap.endLine==cp.line)=true:=by rfl) (hs:starEach [e] X.env=(false,eval e X.env)::starEach [] X.env:=by rfl) (hsw:swapsWith (.Call (.Attribute (.Name x px) "extend" ap) [e] [] cp) none pos.line X.env=pure false:=by rfl):
  PS X (.Expr (.Call (.Attribute (.Name x px) "extend" ap) [e] [] cp) pos) (tS X.K H0 B0 fr RX (y8m i f)):=
 PS.imp (z6w (y8R PySem.F.plainAttrs_list PySem.F.slot_list_extend PySem.F.type_list_extend y0S hx (z1e he pa_nil hs) hbase hfew hline hs rfl) hsw) fun D σ H ⟨δ,R,o,rs,q,k⟩=>by
  unfold y8m at q
  cases e1:f (z0w δ)with
  |none=>rw[e1]at q;cases q
  |some d=>
  rw[e1,aj]at q
  split at q
  case h_2=>cases q
  case h_1 es ds ei=>
  split at q
  case isFalse=>cases q
  case isTrue hl=>
  cases q
  obtain⟨a,xs,A,ev,ha,ts,eR,nd⟩:=rs.top ei
  refine⟨.ref a,ev,.inl ⟨rfl,xs,SqL.of ha⟩,noB,z0w δ,_,.no,rs.all,e1,fun y H2 s2 r2=>?_⟩
  unfold Rep at r2
  obtain⟨b,zs,rfl,_,hb,rz⟩:=r2
  refine⟨a,b,xs,zs,rfl,rfl,s2 _ _ ha,hb,by rw[←ts.length,←rz.length];exact hl.2,?_⟩
  have tz:=rz.immTree es hl.1
  have P:=rs.put0 s2 ei ev eR nd ((ts.mono s2).append tz) (by rw[aF];exact(aA.mp nd).2) fun p hp=>.inl (by rw[aF]at hp;exact hp)
  exact k σ _ _ P.1 P.2
end
def tupE:Expr->Option (List Expr)
 |.Tuple es _ _=>some es
 |_=>none
theorem y6E{e:Expr}{es:List Expr}(h:tupE e=some es):∃x1 p,e = .Tuple es x1 p:=by
 cases e <;> first | (cases h;exact⟨_,_,rfl⟩) | cases h
def y5m:List Expr->Option (List (List Int))
 |[]=>some []
 |e::r=>(tupE e).bind fun es=>(y5L es).bind fun n=>(y5m r).map (n :: ·)
def y5q(rows:List (List Int)):DS->Option (List D):=fun _=>some (rows.map fun r=>.tup (r.map .int))
section
variable{X:Cx}{pos:Pos}
theorem se_tup{es' es:List Expr}{x1}{pos:Pos}{env:Env}:starEach (.Tuple es' x1 pos::es) env=(false,eval (.Tuple es' x1 pos) env)::starEach es env:=rfl
def litT(ns:List Int):DE:=mkT (z0j (ns.map fun n=>dC (.int n)))
theorem litT_eq(ns:List Int)(δ:DS):litT ns δ=some (.tup (ns.map .int)):=by
 unfold litT mkT
 rw[y4S]
 rfl
theorem x1M{es:List Expr}:∀{rs:List (List Int)},y5m es=some rs->(∀r∈rs,r.length≤1000)->PAD X es (rs.map litT):=by
 induction es with
 |nil=>intro rs h _;cases h;exact z0d
 |cons e r ih=>
  intro rs h hl
  have h:((tupE e).bind fun es=>(y5L es).bind fun n=>(y5m r).map (n :: ·))=some rs:=h
  cases e1:tupE e with
  |none=>rw[e1]at h;cases h
  |some es=>
   rw[e1,aj]at h
   cases e2:y5L es with
   |none=>rw[e2]at h;cases h
   |some n=>
    rw[e2,aj]at h
    cases e3:y5m r with
    |none=>rw[e3]at h;cases h
    |some ns=>
     rw[e3]at h
     cases h
     obtain⟨x1,p,rfl⟩:=y6E e1
     exact z0a (z1J (y6F e2) (by rw[ao];exact hl n ac)) (ih e3 fun r hr=>hl r (ae _ hr)) se_tup
theorem y2a(δ:DS):∀rs:List (List Int),z0j (rs.map litT) δ=some (rs.map fun r=>.tup (r.map .int))
 |[]=>rfl
 |r::rs=>by
  have ih:=y2a δ rs
  show((litT r δ).bind fun x=>(z0j (rs.map litT) δ).bind fun xs=>some (x::xs))=_
  rw[ih,litT_eq]
  rfl
theorem x1j(rs:List (List Int)):z0j (rs.map litT)=y5q rs:=by
 funext δ
 rw[y2a]
 rfl
theorem y9w{es:List Expr}{rs:List (List Int)}(h:y5m es=some rs)(hb:(ee rs.length 1000&&rs.all fun r=>ee r.length 1000)=true):PF X (.List es pos) (y5q rs):=by
 have hb:=aq.mp hb
 rw[←x1j]
 exact z0x (x1M h fun r hr=>bU (az.mp hb.2 r hr)) (by rw[ao];exact bU hb.1)
variable{H0:Hp}{B0:Addr->Prop}{fr:Bool}{RX:XR}
theorem y8x{i:Nat}{x:Str}{es:List Expr}{rs:List (List Int)}{lp p pos':Pos}(hN:X.N.Nodup)(hi:X.N[i]? = some x)(hx:Loc X.env.scope x)(h:y5m es=some rs)(hb:(ee rs.length 1000&&rs.all fun r=>ee r.length 1000)=true)(hf:X.fn x=true∨X.env.scope.names.lookup x=some .local):
  PSb X (.Assign [.Name x pos'] (.List es lp) p) (tS X.K H0 B0 fr RX (z6S i (z0u (y5q rs)))):=by
 unfold PSb
 exact z1I (z0L hN hi hx (z3V (y9w h hb)) rfl hf)
end
section
end
section
end
theorem Trees.setN{K:aa}{H:Hp}{d:D}{y:V}{C:List Addr}(ty:Tree K H d y C):∀{ds:List D} {xs:List V} {A:List Addr} (j:Nat),Trees K H ds xs A->∃A',Trees K H (ds.set j d) (xs.set j y) A'∧((A++C).Nodup->A'.Nodup)∧∀a∈A',a∈A∨a∈C
 |[],_,_,_,h=>by
  obtain⟨rfl,rfl⟩:=h
  exact⟨[],⟨rfl,rfl⟩,fun _=>aY,fun a z=>nomatch z⟩
 |e::ds,_,_,0,h=>by
  unfold Trees at h
  obtain⟨x,r,A1,A2,rfl,h1,h2,rfl⟩:=h
  refine⟨C++A2,?_,fun nd=>?_,fun a ha=>?_⟩
  ·rw[cc,cc]
   unfold Trees
   exact⟨y,r,C,A2,rfl,ty,h2,rfl⟩
  ·obtain⟨n1,n2,n3⟩:=aO.mp nd
   obtain⟨m1,m2,m3⟩:=aO.mp n1
   exact aO.mpr ⟨n2,m2,fun a ha b hb z=>n3 b (aC _ hb) a ha z.symm⟩
  ·rcases au.mp ha with z | z
   ·exact .inr z
   ·exact .inl (aC _ z)
 |e::ds,_,_,k+1,h=>by
  unfold Trees at h
  obtain⟨x,r,A1,A2,rfl,h1,h2,rfl⟩:=h
  obtain⟨A',t,nd',sb⟩:=Trees.setN ty k h2
  refine⟨A1++A',?_,fun nd=>?_,fun a ha=>?_⟩
  ·rw[ce,ce]
   unfold Trees
   exact⟨x,_,A1,A',rfl,h1,t,rfl⟩
  ·rw[aP]at nd
   obtain⟨n1,n2,n3⟩:=aO.mp nd
   refine aO.mpr ⟨n1,nd' n2,fun a ha b hb z=>?_⟩
   rcases sb b hb with w | w
   ·exact n3 a ha b (aQ _ w) z
   ·exact n3 a ha b (aC _ w) z
  ·rcases au.mp ha with z | z
   ·exact .inl (aQ _ z)
   ·rcases sb a z with w | w
    ·exact .inl (aC _ w)
    ·exact .inr w
section
variable{X:Cx}{H0:Hp}{B0:Addr->Prop}{fr:Bool}{RX:XR}{e ke:Expr}{pos:Pos}{x:Str}{px p2:Pos}
def st0N(i:Nat)(fk fv:DE):SS->Option Out:=fun δ=>(fv (z0w δ)).bind fun d=>(fk (z0w δ)).bind fun dk=>(match dk,δ[i]? with
 |.int k,some (some (.ow (.lst ds)))=>(ixN ds.length k).map fun j=>.nx ((z0M i δ).set i (some (.ow (.lst (ds.set j d)))))
 |_,_=>none)
theorem s_st0N{i:Nat}{fk fv:DE}(hx:PE X (.Name x px) (y1a i))(hk:PD X ke fk)(hv:PN X e fv)
  (ha:∀v,fF (.Subscript (.Name x px) ke p2) X.env v=(do
   let ov ←holding [v] (eval (.Name x px) X.env)
   let iv ←holding [v,ov] (eval ke X.env)
   standAt p2
   holding [v,ov,iv] (setItem ov iv v)
   release [v,ov,iv] []):=by intro _;rfl)
  (hs:swapsWithSole [.Subscript (.Name x px) ke p2] e pos.line X.env=pure false:=by rfl) (hw:swappedStores [.Subscript (.Name x px) ke p2] e X.env=pure none:=by rfl)
  (h1:(fA [.Subscript (.Name x px) ke p2] X.env).map (·.2)=[fF (.Subscript (.Name x px) ke p2) X.env]:=by rfl):
  PS X (.Assign [.Subscript (.Name x px) ke p2] e pos) (tS X.K H0 B0 fr RX (st0N i fk fv)):=
 PS.imp (y9t hv (y6x hx hk z9T ha) hs hw h1) fun D σ H ⟨δ,R,o,rs,q,kk⟩=>by
  unfold st0N at q
  cases e1:fv (z0w δ)with
  |none=>rw[e1]at q;cases q
  |some d=>
  rw[e1,aj]at q
  cases e2:fk (z0w δ)with
  |none=>rw[e2]at q;cases q
  |some dk=>
  rw[e2,aj]at q
  split at q
  case h_2=>cases q
  case h_1=>
  rename_i k ds ei
  cases ej:ixN ds.length k with
  |none=>rw[ej]at q;cases q
  |some j=>
  rw[ej]at q
  cases q
  obtain⟨a,xs,A,ev,ha',ts,eR,nd⟩:=rs.top ei
  refine⟨z0w δ,d,rs.all,e1,fun v H1 C s1 t1 nC fC=>⟨.ref a,ev,noB,z0w δ,.int k,.no,rs.all.mono s1,e2,fun v2 H2 s2 r2=>?_⟩⟩
  cases (show v2=V.int k from r2)
  refine⟨a,xs,k,j,rfl,rfl,s2 _ _ (s1 _ _ ha'),by rw[←ts.length];exact ej,?_⟩
  obtain⟨A',t',nd',sb⟩:=Trees.setN (t1.mono s2) j (ts.mono (s1.trans s2))
  have hAC:(A++C).Nodup:=aO.mpr ⟨(aA.mp nd).2,nC,fun p hp c hc z=>by
   subst z
   obtain⟨u,q,_⟩:=Trees.held ds ts p hp
   rw[fC p hc]at q;cases q⟩
  have P:=rs.put0 (s1.trans s2) ei ev eR nd t' (nd' hAC) fun b hb=>(sb b hb).imp id (fC b)
  exact kk σ _ _ P.1 P.2
end
section
end
def hdI:List D->Bool
 |.int _::_=>true
 |_=>false
section
variable{K:aa}{H:Hp}{B:Addr->Prop}
theorem rep_int{i:Int}{d:D}(h:Rep K H B d (.int i)):d = .int i:=by
 cases d <;> unfold Rep at h
 case int j=>cases h;rfl
 case non=>cases h
 case bl=>cases h
 case str=>cases h
 case scr=>obtain⟨_,z,_⟩:=h;cases z
 case obj=>obtain⟨_,_,_,_,_,⟨z,_⟩,_⟩:=h;cases z
 case cel=>obtain⟨_,_,_,z,_⟩:=h;cases z
 all_goals (obtain⟨_,_,z,_⟩:=h;cases z)
def z8a:List D->Option (List Int)
 |[]=>some []
 |.int i::ds=>(z8a ds).map (i :: ·)
 |_=>none
theorem z9H:∀{ds:List D} {ns:List Int},z8a ds=some ns->ds=ns.map .int
 |[],_,h=>by cases h;rfl
 |d::ds,ns,h=>by
  cases d
  case int i=>
   unfold z8a at h
   cases e:z8a ds with
   |none=>rw[e]at h;cases h
   |some ms=>
    rw[e]at h
    cases h
    rw[z9H e];rfl
  all_goals (unfold z8a at h;cases h)
theorem z6m:∀{ns:List Int} {ys:List V} {A:List Addr},Trees K H (ns.map .int) ys A->ys=ns.map V.int∧A=[]
 |[],_,_,h=>h
 |n::ns,ys,A,h=>by
  rw[aH]at h
  unfold Trees at h
  obtain⟨x,r,B',C,e,t,ts,eA⟩:=h
  unfold Tree at t
  obtain⟨e1,e2⟩:=z6m ts
  rw[e,eA,t.1,t.2,e1,e2]
  exact⟨rfl,rfl⟩
end
section
end
mutual
def noJ:D->Bool
 |.lst ds=>!hdI ds&&noJs ds
 |.non=>true
 |.bl _=>true
 |.int _=>true
 |.str _=>true
 |.tup _=>false
 |.scr _=>false
 |.dct _ _=>false
 |.exc _=>false
 |.obj _ _ _ _=>false
 |.cel _ _=>false
def noJs:List D->Bool
 |[]=>true
 |d::ds=>noJ d&&noJs ds
end
section
end
def keepJ:Option SD->Option SD
 |some (.sh d)=>if noJ d=true then some (.sh d)else none
 |some (.ow d)=>some (.ow d)
 |_=>none
section
end
section
end
def noL(H:Hp):Prop:=∀a xs,H a≠some (.lst xs)
def spNO(K:aa)(F:List D->Option D):Sp:=fun vs H Q E=>noL H∧spN K F vs H Q E
def y3y(K:aa)(F:List D->Option D):Sp:=fun vs H Q E=>noL H∧spLaw K F vs H Q E
theorem x2b{H:Hp}(hO:Only H):noL H:=fun a xs z=>by
 rcases hO a with e | ⟨o,ys,e⟩ <;> (rw[e]at z;cases z)
section
variable{P:fw}{w:fx}{K:aa}{mg:Str->Option Value}{base:Heap}
theorem fnNO{x qual:Str}{st:Stmt}{f:Addr}{fd:fy}{N ps:List Str}{k np nl:Nat}{g:SS->Option Out}(F:Fun K x qual st f fd)(S:FnScope N ps (z0g st))(hnp:ps.length=np)(hN:N.length=np+nl)
  (hbody:∀(cdv:Value) (A:Around) (outer:List Env) (s:dw) (H:Hp) (E:XK),Room k (A.deeper (envOfC qual (z0g st) s.heap.objs.size f cdv))->noL H →
   PSs (z8p CX0 P w K mg base N qual (z0g st) f cdv A outer s H E).nox (z0X st) (tS K H noB true noX g)):FnOk P w K mg base CX0 (k+1) f fd ps (spNO K (z2g np nl g)):=by
 refine F.ok S (fun vs H Q E h=>?_) fun cdv A outer s H vs Q E hr h=>?_
 ·obtain⟨_,ds,d,r,e,_⟩:=h
  rw[←r.length,z4B e,hnp]
 ·obtain⟨hO,ds,d,r,e,kk⟩:=h
  refine⟨_,hbody cdv A outer s H E hr hO,?_⟩
  have hl:=z4B e
  unfold z2g at e
  rw[if_pos hl]at e
  have rs:=z5E (nl:=nl) .no r (N:=N) ⋯
  split at e
  ·rename_i d' eg
   cases e
   exact⟨_,_,_,rs,eg,fun v H' z _=>by
    obtain⟨A',t,nd,fr⟩:=z.2.1 rfl
    exact kk v H' A' z.1 t nd fr⟩
  ·rename_i δ' eg
   cases e
   exact⟨_,_,_,rs,eg,fun σ' H' R' rs' _=>kk .non H' [] rs'.keep ⟨rfl,rfl⟩ aY (fun a z=>nomatch z)⟩
  ·cases e
theorem law_ofO{k:Nat}{f:Addr}{fd:fy}{ps:List Str}{F:List D->Option D}(h:FnOk P w K mg base CX0 k f fd ps (spNO K F)):FnOk P w K mg base CX0 k f fd ps (y3y K F):=by
 refine h.imp fun vs H Q E z=>?_
 obtain⟨hO,a,ns,rfl,hq,e,q⟩:=z
 refine⟨hO,[.scr ns],.bl true,.cons ?_ .nil,e,fun v H' A s t nd fr=>?_⟩
 ·unfold Rep
  exact⟨a,rfl,hq⟩
 ·cases (show v=V.bl true∧_ from t).1
  exact q H'
end
section
end
section
end
section
end
section
end
section
end
section
end
def SIt(h:Heap)(tp:Bool)(it a:Addr)(i:Nat):Prop:=if tp=true then h.IsTupleIter it a i else h.IsListIter it a i
section
end
structure ZipAt(h:Heap)(tp:Bool)(a b z TI TO i1 i2:Addr)(i:Nat):Prop where
 zip:IsZip h z TI TO .none
 its:IsPair h TI (.ref i1) (.ref i2)
 out:∃u v,IsPair h TO u v
 one:SIt h tp i1 a i
 two:SIt h false i2 b i
def fzH(ob:Addr->Obj)(L:Addr->Bool)(H:Hp):Hp:=fun a=>match H a with
 |some (.lst xs)=>if L a=true then some (.frz (ob a) (.lst xs))else some (.lst xs)
 |z=>z
section
variable{ob:Addr->Obj}{L:Addr->Bool}{H:Hp}{a:Addr}
theorem x0n{xs:List V}(h:H a=some (.lst xs))(hl:L a=true):fzH ob L H a=some (.frz (ob a) (.lst xs)):=by
 unfold fzH
 rw[h]
 exact if_pos hl
theorem z7X(hl:L a=false):fzH ob L H a=H a:=by
 unfold fzH
 cases h:H a with
 |none=>rfl
 |some u=>
  cases u with
  |lst xs=>exact if_neg (by rw[hl];exact av)
  |_=>rfl
theorem y2l(h:∀xs,H a≠some (.lst xs)):fzH ob L H a=H a:=by
 unfold fzH
 cases e:H a with
 |none=>rfl
 |some u=>
  cases u with
  |lst xs=>exact(h xs e).elim
  |_=>rfl
end
theorem Inv.fz{X:Cx}{pins:AO}{σ:List (Option V)}{H:Hp}{s:dw}(I:Inv X pins σ H s)(L:Addr->Bool):∃ob,Inv X pins σ (fzH ob L H) s:=by
 refine⟨fun a=>(s.heap.get? a).getD ⟨.none,none,.fields #[],#[]⟩,?_⟩
 have no:∀{b:Addr},H b=none->fzH (fun a=>(s.heap.get? a).getD ⟨.none,none,.fields #[],#[]⟩) L H b=none:=fun z=>by rw[y2l (fun xs w=>by rw[z]at w;cases w)];exact z
 have ot:∀{b:Addr} {u:HO},H b=some u->(∀xs,u≠.lst xs)->fzH (fun a=>(s.heap.get? a).getD ⟨.none,none,.fields #[],#[]⟩) L H b=some u:=fun z hu=>by rw[y2l (fun xs w=>by rw[z]at w;exact hu xs (Option.some.inj w))];exact z
 have st:∀{b:Addr} {u:HO},ObjOk X.prog X.w H s.heap b u->ObjOk X.prog X.w (fzH (fun a=>(s.heap.get? a).getD ⟨.none,none,.fields #[],#[]⟩) L H) s.heap b u:=fun x=>x.stay (fun _ _ _ q=>q) (fun d z=>ot z fun _ w=>by cases w) fun d xs z=>ot z fun _ w=>by cases w
 refine⟨I.ok,I.os,I.bare,⟨I.base.keep,I.base.slot,fun b o q n hx=>no (I.base.free b o q n hx),I.base.there,fun b xs q=>ot (I.base.tups b xs q) fun _ w=>(by cases w),fun b o u q=>ot (I.base.frzs b o u q) fun _ w=>(by cases w),fun b ps q=>?_⟩,
  I.loc,I.cell,no I.free,fun x c h=>no (I.freeC x c h),fun p hp=>?_,fun b u q=>?_,I.len⟩
 ·obtain⟨more,z⟩:=I.base.tbls b ps q
  exact⟨more,ot z fun _ w=>by cases w⟩
 ·obtain⟨p1,p2,p3⟩:=I.pin p hp
  exact⟨p1,no p2,p3⟩
 ·cases e:H b with
  |none=>rw[no e]at q;cases q
  |some u0=>
   by_cases hu:∃xs,u0 = .lst xs
   ·obtain⟨xs,rfl⟩:=hu
    have ok:=I.hok b _ e
    cases hl:L b with
    |false=>
     rw[z7X hl,e]at q
     cases q
     exact st ok
    |true=>
     rw[x0n e hl]at q
     cases q
     obtain⟨z,its,n,r,eg⟩:=(show ObjOk X.prog X.w H s.heap b (.lst xs) from ok)
     refine⟨?_,st ok⟩
     rw[eg]
     rfl
   ·rw[ot e fun xs w=>hu ⟨xs,w⟩]at q
    cases q
    exact st (I.hok b _ e)
section
variable{K:aa}{ob:Addr->Obj}{L:Addr->Bool}{H:Hp}{B:Addr->Prop}
theorem Keep.fz(hb:∀a,L a=true->B a):Keep K B H (fzH ob L H):=by
 have off:∀{a:Addr},¬ B a->L a=false:=fun {a} n=>by
  cases h:L a with
  |false=>rfl
  |true=>exact(n (hb a h)).elim
 have ot:∀{b:Addr} {u:HO},H b=some u->(∀xs,u≠.lst xs)->fzH ob L H b=some u:=fun z hu=>by rw[y2l (fun xs w=>by rw[z]at w;exact hu xs (Option.some.inj w))];exact z
 refine⟨fun b xs n h=>by rw[z7X (off n)];exact h,fun b xs h=>?_,fun b xs h=>?_,fun b kvs n h=>ot h fun _ w=>(by cases w),fun b φ n h=>ot h fun _ w=>(by cases w),fun b _ _ _ n h=>ot h fun _ w=>by cases w⟩
 ·rcases h with (h | ⟨u,h⟩) | h
  ·exact .inl (.inl (ot h fun _ w=>by cases w))
  ·exact .inl (.inr ⟨u,ot h fun _ w=>by cases w⟩)
  ·exact .inr h
 ·rcases h with⟨u,h⟩ | h
  ·exact .inl ⟨u,ot h fun _ w=>by cases w⟩
  ·exact .inr h
end
def x1U:List D->Option (List D)
 |[]=>some []
 |.lst ds::r=>(z8a ds).bind fun ns=>(x1U r).map (.scr ns :: ·)
 |d::r=>if d.imm=true then(x1U r).map (d :: ·)else none
section
variable{K:aa}{ob:Addr->Obj}{L:Addr->Bool}{H:Hp}
theorem z7D{L:Addr->Bool}:∀{ds es:List D} {xs:List V} {A:List Addr},x1U ds=some es->Trees K H ds xs A->(∀a∈A,L a=true)->Trees K (fzH ob L H) es xs []
 |[],es,xs,A,h,t,_=>by
  cases h
  unfold Trees at t ⊢
  exact⟨t.1,rfl⟩
 |d::r,es,xs,A,h,t,hA=>by
  unfold Trees at t
  obtain⟨x,ys,B,C,ex,tx,ts,eA⟩:=t
  have im:∀r',d.imm=true->x1U r=some r'->Trees K (fzH ob L H) (d::r') xs []:=fun r' hd er=>by
   have t1:Tree K H d x []:=Rep.immTree d hd (Tree.rep d (B:=noB) tx fun _ _ z=>z)
   have t2:=z7D er ts fun a ha=>hA a (by rw[eA];exact aC _ ha)
   unfold Trees
   exact⟨x,ys,[],[],ex,Tree.keep (Keep.fz (B:=fun _=>True) fun _ _=>trivial).i d t1 (fun a ha=>nomatch ha),t2,rfl⟩
  by_cases hd:∃ds,d = .lst ds
  ·obtain⟨ds,rfl⟩:=hd
   unfold x1U at h
   cases en:z8a ds with
   |none=>rw[en]at h;cases h
   |some ns=>
    rw[en]at h
    have h:(x1U r).map (D.scr ns :: ·)=some es:=h
    obtain⟨r',er,e'⟩:=cg.mp h
    subst e'
    have t2:=z7D er ts fun a ha=>hA a (by rw[eA];exact aC _ ha)
    unfold Tree at tx
    obtain⟨a,zs,B',e1,ha,tz,eB⟩:=tx
    rw[z9H en]at tz
    have ez:=(z6m tz).1
    unfold Trees
    refine⟨x,ys,[],[],ex,?_,t2,rfl⟩
    unfold Tree
    refine⟨⟨a,e1,.inl ⟨ob a,?_⟩⟩,rfl⟩
    rw[x0n ha (hA a (by rw[eA,eB];simp)),ez]
  ·have h:(if d.imm=true then(x1U r).map (d :: ·)else none)=some es:=by
    cases d
    case lst ds=>exact(hd ⟨ds,rfl⟩).elim
    all_goals exact h
   split at h
   case isFalse=>cases h
   case isTrue hi=>
   obtain⟨r',er,e'⟩:=cg.mp h
   subst e'
   exact im r' hi er
end
section
variable{X:Cx}{fr:Bool}
def fzD:D->Option D
 |.lst ds=>match z8a ds with
  |some ns=>some (.scr ns)
  |none=>(x1U ds).map .lst
 |_=>none
def dFz(f:DE):DE:=fun δ=>(f δ).bind fzD
theorem pn_fz{e:Expr}{f:DE}(h:PN X e f):PN X e (dFz f):=by
 rintro pins s σ H Q I ⟨δ,d',S,q,k⟩
 unfold dFz at q
 cases ef:f δ with
 |none=>rw[ef]at q;cases q
 |some d=>
 rw[ef]at q
 have q:fzD d=some d':=q
 refine thn (h pins s σ H (fun v H1=>∃A,Same H H1∧Tree X.K H1 d v A∧A.Nodup∧∀a∈A,H a=none) I ⟨δ,d,S,ef,fun v H1 A s1 t nd fr=>⟨A,s1,t,nd,fr⟩⟩) fun u s1 ⟨y,H1,I1,r1,A,sm,t,nd,fr⟩=>?_
 unfold fzD at q
 split at q
 case h_2=>cases q
 case h_1 ds=>
 unfold Tree at t
 obtain⟨a,xs,B,rfl,ha,ts,eA⟩:=t
 have ne:∀{b:Addr} {w:HO},H b=some w->b∉A:=fun hb z=>by rw[fr _ z]at hb;cases hb
 split at q
 ·rename_i ns en
  cases q
  rw[z9H en]at ts
  obtain⟨ex,eB⟩:=z6m ts
  obtain⟨ob,I2⟩:=I1.fz fun b=>decide (b=a)
  refine⟨_,_,I2,r1,k _ _ [] (fun b w hb=>?_) ?_ aY fun b hb=>nomatch hb⟩
  ·rw[z7X (decide_eq_false fun z=>ne hb (by rw[eA,z];exact ac))]
   exact sm b w hb
  ·unfold Tree
   exact⟨⟨a,rfl,.inl ⟨ob a,by rw[x0n ha (decide_eq_true rfl),ex]⟩⟩,rfl⟩
 ·obtain⟨es,en,rfl⟩:=cg.mp q
  rw[eA]at nd
  have na:a∉B:=(aA.mp nd).1
  have la:decide (a∈B)=false:=decide_eq_false na
  obtain⟨ob,I2⟩:=I1.fz fun b=>decide (b∈B)
  refine⟨_,_,I2,r1,k _ _ [a] (fun b w hb=>?_) ?_ (aA.mpr ⟨fun z=>(nomatch z),aY⟩) fun b hb=>by rw[ag.mp hb];exact fr a (by rw[eA];exact ac)⟩
  ·rw[z7X (decide_eq_false fun z=>ne hb (by rw[eA];exact ae _ z))]
   exact sm b w hb
  ·unfold Tree
   exact⟨a,xs,[],rfl,by rw[z7X la];exact ha,z7D en ts fun b hb=>decide_eq_true hb,rfl⟩
end
section
end
end L2
namespace PySem
section
set_option maxHeartbeats 3200000 in
open PyProof.Rows in
end
end PySem
namespace L2
open PySem PySem.Spec PyProof.Rows
section
end
section
end
section
end
def x0o(K:aa)(cl:Nat->Value)(m:List D->Option XO):Sp:=fun vs H Q E=>∃B ds o,InB B H∧Reps K H B ds vs∧m ds=some o∧(match o with
 |.val d=>∀v H',Same H H'->Rep K H' B d v->Q v H'
 |.exc c=>∀H',Same H H'->E (cl c) none H')
section
variable{P:fw}{w:fx}{K:aa}{mg:Str->Option Value}{base:Heap}
theorem fnXS{x qual:Str}{st:Stmt}{f:Addr}{fd:fy}{N ps:List Str}{k np nl:Nat}{g:SS->Option Out}{cl:Nat->Value}(F:Fun K x qual st f fd)(S:FnScope N ps (z0g st))(hnp:ps.length=np)(hN:N.length=np+nl)
  (hbody:∀(cdv:Value) (A:Around) (outer:List Env) (s:dw) (H:Hp) (E:XK) (B:Addr->Prop),Room k (A.deeper (envOfC qual (z0g st) s.heap.objs.size f cdv)) →
   PSs (z8p (CXE P w) P w K mg base N qual (z0g st) f cdv A outer s H E) (z0X st) (tS K H B false (x2h cl E) g)):FnOk P w K mg base (CXE P w) (k+1) f fd ps (x0o K cl (z9M np nl g)):=by
 obtain⟨oc,od,kV,doc,pm,an,cdv,ct,osl,rfl,lk,hcd⟩:=F.ex
 refine fn_of lk hcd S (fun vs H Q E h=>?_) fun A outer s H vs Q E hr h=>?_
 ·obtain⟨B,ds,o,_,r,e,_⟩:=h
  rw[←r.length,z6Z e,hnp]
 ·obtain⟨B,ds,o,hB,r,e,kk⟩:=h
  refine⟨_,hbody cdv A outer s H E B hr,?_⟩
  have hl:=z6Z e
  unfold z9M at e
  rw[if_pos hl]at e
  have rs:=z5E (nl:=nl) hB r (N:=N) ⋯
  split at e
  ·rename_i d' eg
   cases e
   exact⟨_,_,_,rs,eg,fun v H' z _=>kk v H' z.1 (z.2.2 rfl)⟩
  ·rename_i δ' eg
   cases e
   exact⟨_,_,_,rs,eg,fun σ' H' R' rs' _=>kk .non H' rs'.keep rfl⟩
  ·rename_i c δ' eg
   cases e
   exact⟨_,_,_,rs,eg,fun σ' H' R' rs' _=>kk H' rs'.keep⟩
  ·cases e
end
section
variable{X:Cx}{k:Nat}{cl:Nat->Value}{RX:XR}{x:Str}{p pos:Pos}{e:Expr}{es:List Expr}
def tXS(K:aa)(RX:XR)(F:DS->Option XO):TE:=fun σ H Q=>∃B δ o,InB B H∧RepS K H B σ δ∧F δ=some o∧(match o with
 |.val d=>∀v H',Same H H'->Rep K H' B d v->Q v H'
 |.exc c=>∀H',Same H H'->RX c σ H')
theorem z6U{m:List D->Option XO}{fl:List DE}(G:DefX X.prog X.w X.K X.mg X.base k x (x0o X.K cl m))(hr:Room k X.A)(hg:Gl X x)(hW:XW X cl RX)(ha:PAD X (e::es) fl)(hdb:(x==("__debug__" : Str))=false:=by decide)
  (he:starEach (e::es) X.env=(false,eval e X.env)::starEach es X.env:=by rfl) (hpl:(fD pos (starEach es X.env)).any (·.1)=false:=by rfl):PE X (.Call (.Name x p) (e::es) [] pos) (tXS X.K RX (z1y m fl)):=
 (y4o G hr hg hW ha hdb he hpl).imp fun σ H Q ⟨B,δ,o,hB,S,q,kk⟩=>by
  unfold z1y at q
  cases e1:z0j fl δ with
  |none=>rw[e1]at q;cases q
  |some ds=>
   rw[e1,aj]at q
   refine⟨B,δ,ds,hB,S,e1,fun vs H1 s1 r1=>⟨B,ds,o,hB.mono s1,r1,q,?_⟩⟩
   cases o with
   |val d=>exact fun v H' s' r=>kk v H' (s1.trans s') r
   |exc c=>exact fun H' s'=>⟨c,rfl,kk H' (s1.trans s')⟩
theorem y0y{m:List D->Option XO}{fl:List DE}(G:DefX X.prog X.w X.K X.mg X.base k x (x0o X.K cl m))(hr:Room k X.A)(hg:Gl X x)(ha:PAD X (e::es) fl)(hdb:(x==("__debug__" : Str))=false:=by decide)
  (he:starEach (e::es) X.env=(false,eval e X.env)::starEach es X.env:=by rfl) (hpl:(fD pos (starEach es X.env)).any (·.1)=false:=by rfl):PD X (.Call (.Name x p) (e::es) [] pos) (z2l m fl):=
 (z6U (RX:=noX) G hr hg xw_no ha hdb he hpl).imp fun σ H Q ⟨B,δ,d,hB,S,q,kk⟩=>by
  unfold z2l at q
  cases e1:z1y m fl δ with
  |none=>rw[e1]at q;cases q
  |some o=>
   rw[e1]at q
   cases o with
   |exc c=>cases q
   |val d'=>
    cases q
    exact⟨B,δ,.val d,hB,S,e1,kk⟩
variable{H0:Hp}{B0:Addr->Prop}{fr:Bool}{F:DS->Option XO}
theorem x1X(h:PE X e (tXS X.K RX F))(hs:swapsWith e none pos.line X.env=pure false:=by rfl):PS X (.Expr e pos) (tS X.K H0 B0 fr RX (y0s F)):=PS.imp (z6w h hs) fun D σ H ⟨δ,R,o,rs,q,k⟩=>by
 unfold y0s at q
 cases e1:F (z0w δ)with
 |none=>rw[e1]at q;cases q
 |some o1=>
  rw[e1]at q
  refine⟨noB,z0w δ,o1,.no,rs.all,e1,?_⟩
  cases o1 with
  |val d=>
   cases q
   exact fun v H' s _=>k σ H' R (rs.mono s) (Stp.same s)
  |exc c=>
   cases q
   exact fun H' s=>k σ H' R (rs.mono s) (.same s)
end
mutual
def noK:D->Bool
 |.lst ds=>!hdI ds&&y7n ds
 |.tup ds=>y7n ds
 |.non=>true
 |.bl _=>true
 |.int _=>true
 |.str _=>true
 |.scr _=>true
 |.dct _ _=>false
 |.exc _=>false
 |.obj _ _ _ _=>false
 |.cel _ _=>false
def y7n:List D->Bool
 |[]=>true
 |d::ds=>noK d&&y7n ds
end
section
variable{K:aa}{H:Hp}{B:Addr->Prop}{m:Addr}{c:Int}{ys:List V}
theorem x0Y:∀ds,hdI ds=false->Reps K H B ds (.int c::ys)->False:=fun ds h r=>by
 cases ds with
 |nil=>unfold Reps at r;cases r
 |cons d ds=>
  unfold Reps at r
  obtain⟨x,r',e,rd,_⟩:=r
  cases e
  rw[rep_int rd]at h
  cases h
mutual
theorem Rep.offK(hm:H m=some (.lst (.int c::ys))):∀(d:D) {v:V},noK d=true->Rep K H B d v->Rep K H (fun a=>B a∨a=m) d v
 |.non,_,_,h=>h
 |.bl _,_,_,h=>h
 |.int _,_,_,h=>h
 |.str _,_,_,h=>h
 |.scr _,_,_,h=>h
 |.tup ds,_,n,h=>by
  unfold noK at n
  unfold Rep at h ⊢
  obtain⟨a,xs,e,hs,r⟩:=h
  exact⟨a,xs,e,hs,Reps.offK hm ds n r⟩
 |.dct _ _,_,n,_=>by unfold noK at n;cases n
 |.exc _,_,n,_=>by unfold noK at n;cases n
 |.obj _ _ _ _,_,n,_=>by unfold noK at n;cases n
 |.cel _ _,_,n,_=>by unfold noK at n;cases n
 |.lst ds,_,n,h=>by
  unfold noK at n
  unfold Rep at h ⊢
  obtain⟨a,zs,e,nb,ha,r⟩:=h
  obtain⟨n1,n2⟩:=aq.mp n
  refine⟨a,zs,e,fun z=>?_,ha,Reps.offK hm ds n2 r⟩
  rcases z with z | z
  ·exact nb z
  ·rw[z,hm]at ha
   cases ha
   exact x0Y ds (by simpa using n1) r
theorem Reps.offK(hm:H m=some (.lst (.int c::ys))):∀(ds:List D) {vs:List V},y7n ds=true->Reps K H B ds vs->Reps K H (fun a=>B a∨a=m) ds vs
 |[],_,_,h=>h
 |d::ds,_,n,h=>by
  unfold y7n at n
  unfold Reps at h ⊢
  obtain⟨x,r,e,rd,rs⟩:=h
  obtain⟨n1,n2⟩:=aq.mp n
  exact⟨x,r,e,Rep.offK hm d n1 rd,Reps.offK hm ds n2 rs⟩
end
end
def z5U:Option SD->Option SD
 |some (.sh d)=>if noK d=true then some (.sh d)else none
 |some (.ow d)=>some (.ow d)
 |_=>none
theorem x2o{o:Option SD}{d:D}(h:z5U o=some (.sh d)):o=some (.sh d)∧noK d=true:=by
 unfold z5U at h
 split at h
 ·split at h
  ·rename_i z;cases h;exact⟨rfl,z⟩
  ·cases h
 ·cases h
 ·cases h
theorem x2w{o:Option SD}{d:D}(h:z5U o=some (.ow d)):o=some (.ow d):=by
 unfold z5U at h
 split at h
 ·split at h <;> cases h
 ·cases h;rfl
 ·cases h
theorem x0x{o:Option SD}{r:Nat}{d:D}(h:z5U o=some (.bo r d)):False:=by
 unfold z5U at h
 split at h
 ·split at h <;> cases h
 ·cases h
 ·cases h
theorem y7B{δ:SS}{k:Nat}{x:SD}(h:(δ.map z5U)[k]? = some (some x)):∃o,δ[k]? = some o∧z5U o=some x:=by
 rw[aG]at h
 exact cg.mp h
section
variable{K:aa}{H0 H:Hp}{B0:Addr->Prop}{σ:St}{δ:SS}{R:Nat->List Addr}
theorem RS.wrK{m:Addr}{c:Int}{xs ys:List V}(h:RS K H0 B0 H σ δ R)(hO:∀a xs,H0 a≠some (.lst xs))(hm:H m=some (.lst (.int c::xs)))(nR:∀r,m∉R r):RS K H0 B0 (upd H m (.lst ys)) σ (δ.map z5U) R:=by
 have mu:Mut (H m):=by rw[hm];exact trivial
 have nm:∀r a,a∈R r->a≠m:=fun r a z w=>nR r (w ▸ z)
 refine⟨fun a u q=>?_,h.inB,by rw[ao];exact h.len,h.new,fun r a z=>?_,h.disj,fun i d q=>?_,fun i r d q=>?_,fun i d q=>?_⟩
 ·have ne:a≠m:=fun w=>by
   have:=h.keep a u q
   rw[w,hm]at this
   cases this
   exact hO a _ q
  rw[z0y ne]
  exact h.keep a u q
 ·rw[z0y (nm r a z)]
  exact h.held r a z
 ·obtain⟨o,e,z⟩:=y7B q
  obtain⟨z1,n⟩:=x2o z
  rw[z1]at e
  obtain⟨v,e,r⟩:=h.sh i d e
  exact⟨v,e,(Rep.keep (Keep.upd (.inr rfl) mu) d (Rep.offK hm d n r)).anti fun a z=>.inl z⟩
 ·obtain⟨o,e,z⟩:=y7B q
  exact(x0x z).elim
 ·obtain⟨o,e,z⟩:=y7B q
  rw[x2w z]at e
  obtain⟨v,e,t,nd⟩:=h.ow i d e
  refine⟨v,e,Tree.keep (Keep.upd (K:=K) (B:=fun x=>x=m) rfl mu).i d t fun a ha o z=>?_,nd⟩
  rw[z0y (nm i a ha)]
  exact z
end
section
variable{X:Cx}{f:DE}{x:Str}{px p2 ap cp pos:Pos}{ke e:Expr}
theorem s_fgT{i:Nat}(hx:PE X (.Name x px) (y1a i))(hk:PD X ke (dC (.int 1)))(ha:PAD X [e] [f])(hpi:z7V ke:=by intro _ _;rfl)
  (hbase:fG (.Subscript (.Name x px) ke p2) "append" X.env (eval (.Subscript (.Name x px) ke p2) X.env)=eval (.Subscript (.Name x px) ke p2) X.env:=by rfl)
  (hfew:((fD cp (starEach [e] X.env)).all (fun x=>!x.1)&&(backToKw cp (keywordEach [] X.env)).all (fun x=>x.1.isSome)&&decide ([e].length+([]:List fH).length+(if([]:List fH).isEmpty then 0 else 1)<30))=true:=by rfl)
  (hline:(ap.endLine==cp.line)=true:=by rfl) (hs:starEach [e] X.env=(false,eval e X.env)::starEach [] X.env:=by rfl)
  (hsw:swapsWith (.Call (.Attribute (.Subscript (.Name x px) ke p2) "append" ap) [e] [] cp) none pos.line X.env=pure false:=by rfl):
  PS X (.Expr (.Call (.Attribute (.Subscript (.Name x px) ke p2) "append" ap) [e] [] cp) pos) (x1V (tBM X.K "list" z9D (tOp (rIxT X.K) (y1a i) (tD X.K (dC (.int 1)))) (tDs X.K (z0j [f])))):=
 z6w (y8R PySem.F.plainAttrs_list PySem.F.slot_list_append PySem.F.type_list_append z1F (x2g ix_tup hx hk hpi) ha hbase hfew hline hs rfl) hsw
end
section
end
instance{i j:Int}:Decidable (CDivN i j):=by unfold CDivN;infer_instance
section
end
structure MethOk(P:fw)(w:fx)(K:aa)(mg:Str->Option Value)(base:Heap)(k:Nat)(cn m:Str)(sp:Sp):Prop where
 ok:∃(C f:Addr) (fd:fy) (ps:List Str),aD K mainGlobals cn=some (some (.ref C))∧L2.Cls K C∧Meth K C m f∧Binds K fd ps []∧FnOk P w K mg base CX0 k f fd ps sp
section
end
section
end
section
end
section
def bkKs:List Str:=["thing_count", "entries", "earlier", "next_number"]
def bk4{α:Type}(a b c d:α):List (Str×α):=[("thing_count",a),("entries",b),("earlier",c),("next_number",d)]
end
section
variable{K:aa}
def spI(K:aa):Sp:=fun vs H Q _=>∃(a C dx:Addr) (m:Int),vs=[.ref a,.int m]∧H a=some (.ins C dx [])∧y5i K C bkKs=true ∧
 ∀l1 l2 H',H l1=none->H l2=none->l1≠l2->H' a=some (.ins C dx (bk4 (.int m) (.ref l1) (.ref l2) (.int 0)))->H' l1=some (.lst [])->H' l2=some (.lst [])->(∀b o,b≠a->H b=some o->H' b=some o)->(∀b,H' b=none->H b=none)->Q .non H'
end
structure NewOk(P:fw)(w:fx)(K:aa)(mg:Str->Option Value)(base:Heap)(k:Nat)(cn:Str):Prop where
 ok:∃(C fi:Addr) (fd:fy) (ps:List Str),Mk K C fi∧mg cn=some (.ref C)∧aD K mainGlobals cn=some (some (.ref C))∧y5i K C bkKs=true∧Binds K fd ps []∧FnOk P w K mg base CX0 k fi fd ps (spI K)
section
end
section
end
section
end
structure MethX(P:fw)(w:fx)(K:aa)(mg:Str->Option Value)(base:Heap)(k:Nat)(cn m:Str)(sp:Sp):Prop where
 ok:∃(C f:Addr) (fd:fy) (ps:List Str),aD K mainGlobals cn=some (some (.ref C))∧L2.Cls K C∧Meth K C m f∧Binds K fd ps []∧FnOk P w K mg base (CXE P w) k f fd ps sp
section
end
section
end
inductive BO where
 |val (o d:D) | exc (c:Nat) (o:D)
section
end
section
end
inductive BR where
 |val (d:D) (δ:SS) | exc (c:Nat) (δ:SS)
section
end
section
end
section
end
structure RoomH(k:Nat)(A:Around):Prop where
 dp:A.depth+3*k+5<recursionLimit
 un:A.units+16*k+200<fK
structure FnOkH(P:fw)(w:fx)(K:aa)(mg:Str->Option Value)(base:Heap)(k:Nat)(f:Addr)(fd:fy)(ps:List Str)(sp:Sp):Prop where
 len:∀vs H Q E,sp vs H Q E->vs.length=ps.length
 run:∀(A:Around) (outer:List Env) (s:dw) (H:Hp) (args:Args) (us:List Value) (vs:List V) (Q:VK) (E:XK),RoomH k A->Env0 P w K mg base A outer s H->BindsTo s fd args (ps.zip us)->Vals vs us->sp vs H Q E →
  codeAny (model P w) A (.call (.ref f) args) (CR CX0 outer P w H s Q E) s
structure DefH(P:fw)(w:fx)(K:aa)(mg:Str->Option Value)(base:Heap)(k:Nat)(x:Str)(sp:Sp):Prop where
 ok:∃(f:Addr) (fd:fy) (ps:List Str),mg x=some (.ref f)∧bB K (.ref f)=true∧Binds K fd ps []∧FnOkH P w K mg base k f fd ps sp
section
end
section
end
section
end
section
end
abbrev F3:=D->List D->D->Option (D×List D×D)
section
end
section
end
def ThrW(h:Heap)(e T:Addr)(cls w:Value):Prop:=∃oe vs oT ts,h.get? e=some oe∧oe.cls=cls∧oe.data = .fields vs∧vs[1]? = some (.ref T)∧T≠e∧h.get? T=some oT∧oT.data = .fields ts∧ts[3]? = some w∧oe.dict=none
structure GoneW(S ch:List Addr)(e:Addr)(cls w:Value)(h h':Heap):Prop where
 keep:∀b o,b∉S->b∉ch->h.get? b=some o->h'.get? b=some o
 slot:∀b o,b∈S->b∉ch->h.get? b=some o->∃sl,h'.get? b=some { o with slots:=sl }
 there:∀b o,h.get? b=some o->∃o',h'.get? b=some o'
 thr:∃T,h.objs.size≤T∧ThrW h' e T cls w
section
variable{M:Model}{A:Around}{E:Value->dw->Prop}{s:dw}
theorem y8Z{base:Heap}{env:Env}{outer:List Env}{L e:Addr}{oe:Obj}{vs:Array Value}{head:Value}{hadNext:Bool}{Q:Unit->dw->Prop}
  (hfr:A.frames=some (env::outer)) (hl:s.heap.FunFrames base (env::outer)) (hf:env.frame=some L)
  (he:s.heap.get? e=some oe) (hd:oe.data = .fields vs) (hsz:1<vs.size) (hdn:oe.dict=none)
  (h:∀h',GoneW (frs (env::outer)) [e] e oe.cls (rawInt L) s.heap h'->Q () { s with heap:=h' }):
  wpAny M A (do let a ←frameOf env;let pl ←entryPlaceOf L hadNext;let b ←EntryCells.newEntry head a .none (rawInt L) .none pl;setField (.ref e) 1 b) Q E s:=by
 have hene:e∉frs (env::outer):=fun hm=>by
  obtain⟨_,o,ho,hnf⟩:=hl.mem hm
  rw[he]at ho;injection ho with ho;subst ho;exact hnf vs hd
 refine wpAny_bind (wpAny_frameOf_fun hfr hl hf fun h₁ hs₁=>?_)
 refine wpAny_bind (wpAny_entryPlaceOf fun pl hpl=>?_)
 unfold EntryCells.newEntry newFields
 refine wpAny_bind (wpAny_newObj_type ?_ (hpl.sizeOk5 _ _ _ _ _))
 have he₁:h₁.get? e=some oe:=(hs₁.2.1 e hene).trans he
 generalize hob:({ cls:=.type "traceback",dict:=none,data:=.fields ([head,.ref L,.none,rawInt L,.none]++(if pl.isEmpty then ad 6 Value.none else pl)).toArray }:Obj)=ob
 have hobd:ob.data = .fields ([head,.ref L,.none,rawInt L,.none]++(if pl.isEmpty then ad 6 Value.none else pl)).toArray:=by rw[←hob]
 have hobf:ob.isFreed=false:=by rw[←hob];rfl
 have he₂:=Heap.get?_push_of_some (h:=h₁) ob he₁
 refine wpAny_setField he₂ hd hsz (h _ ?_)
 have hTe:h₁.objs.size≠e:=b7 (Heap.lt_size he₁)
 have hd₃:=Obj.data_mapFields hd (·.setIfInBounds 1 (Value.ref h₁.objs.size))
 have he₃:=Heap.get?_update_self (Obj.mapFields (·.setIfInBounds 1 (Value.ref h₁.objs.size))) he₂ (Obj.isFreed_of_fields hd₃)
 have hT₃:=(Heap.get?_update_other (h₁.push ob) (Obj.mapFields (·.setIfInBounds 1 (Value.ref h₁.objs.size))) (Ne.symm hTe)).trans (Heap.get?_push_size h₁ hobf)
 have keep:∀b o,b≠e->h₁.get? b=some o->((h₁.push ob).update e (Obj.mapFields (·.setIfInBounds 1 (Value.ref h₁.objs.size)))).get? b=some o:=fun b o hbe hb=>by
  rw[Heap.get?_update_other _ _ (Ne.symm hbe)]
  exact Heap.get?_push_of_some _ hb
 refine⟨fun b o hb hc e1=>?_,fun b o hb hc e1=>?_,fun b o e1=>?_,h₁.objs.size,?_,?_⟩
 ·exact keep b o (fun z=>hc (by simp[z])) ((hs₁.2.1 b hb).trans e1)
 ·obtain⟨sl,e2⟩:=hs₁.2.2 b o e1
  exact⟨sl,keep b _ (fun z=>hc (by simp[z])) e2⟩
 ·by_cases hb:b=e
  ·exact⟨Obj.mapFields (·.setIfInBounds 1 (Value.ref h₁.objs.size)) oe,by rw[hb];exact he₃⟩
  ·obtain⟨sl,e2⟩:=hs₁.2.2 b o e1
   exact⟨_,keep b _ hb e2⟩
 ·rw[hs₁.1]
  exact ar _
 ·exact⟨_,_,_,_,he₃,Obj.cls_mapFields _ _,hd₃,by simp[hsz],hTe,hT₃,hobd,by simp,y3T hdn⟩
theorem y5H{base:Heap}{env:Env}{outer:List Env}{L e T:Addr}{cls:Value}{Q:Unit->dw->Prop}
  (hfr:A.frames=some (env::outer)) (hl:s.heap.FunFrames base (env::outer)) (hf:env.frame=some L) (ht:Thr s.heap e T cls)
  (h:∀h',GoneW (frs (env::outer)) [e,T] e cls (rawInt L) s.heap h'->Q () { s with heap:=h' }):wpAny M A (noteFrame (.ref e) env) Q E s:=by
 obtain⟨oe,vs,oT,ts,he,rfl,hd,h1,hTe,hT,hdT,h3,hdn⟩:=ht
 unfold noteFrame
 simp only[hf]
 refine wpAny_bind (wpAny_field he hd h1 ?_)
 rw[if_pos (show(Value.ref T != Value.none)=true from by simp)]
 refine wpAny_bind (wpAny_field hT hdT h3 ?_)
 rw[if_neg (show ¬ ((Value.none==rawInt L)=true) from by simp[rawInt])]
 refine wpAny_bind (wpAny_setField hT hdT (aU.mp h3).1 ?_)
 have other:∀b,b≠T->(s.heap.update T (Obj.mapFields (·.setIfInBounds 3 Value.none))).get? b=s.heap.get? b:=fun b hb=>Heap.get?_update_other _ _ (Ne.symm hb)
 have noRecord:∀b o,s.heap.get? b=some o->(∀vs,o.data≠.fields vs)->b≠T:=fun b o hb hnf q=>by
  rw[q,hT]at hb;injection hb with hb;subst hb;exact hnf ts hdT
 refine y8Z hfr (hl.of_keeps fun b o hb hnf=>⟨o,(other b (noRecord b o hb hnf)).trans hb,rfl⟩) hf ((other e (Ne.symm hTe)).trans he) hd (aU.mp h1).1 hdn fun h' G=>h h' ?_
 refine⟨fun b o hb hc e1=>G.keep b o hb (fun z=>hc (ai.mpr (.inl (ag.mp z)))) ((other b fun z=>hc (by simp[z])).trans e1),fun b o hb hc e1=>G.slot b o hb (fun z=>hc (ai.mpr (.inl (ag.mp z)))) ((other b fun z=>hc (by simp[z])).trans e1),fun b o e1=>?_,?_⟩
 ·by_cases hb:b=T
  ·have e2:(s.heap.update T (Obj.mapFields (·.setIfInBounds 3 Value.none))).get? b=some (Obj.mapFields (·.setIfInBounds 3 Value.none) oT):=by
    rw[hb]
    exact Heap.get?_update_self _ hT (Obj.isFreed_of_fields (Obj.data_mapFields hdT _))
   exact G.there b _ e2
  ·exact G.there b o ((other b hb).trans e1)
 ·obtain⟨T',h1,h2⟩:=G.thr
  exact⟨T',by rwa [Heap.size_after_update]at h1,h2⟩
theorem y9i{e T:Addr}{cls w:Value}{fo:Option Addr}{Q:Unit->dw->Prop}(ht:ThrW s.heap e T cls w)
  (h:∀h',(∀b,b≠T->h'.get? b=s.heap.get? b)->(∀b o,s.heap.get? b=some o->∃o',h'.get? b=some o')->ThrW h' e T cls (fo.elim Value.none fun f=>rawInt f)->Q () { s with heap:=h' }):wpAny M A (setFlight (.ref e) fo) Q E s:=by
 obtain⟨oe,vs,oT,ts,he,hcl,hd,h1,hTe,hT,hdT,h3,hdn⟩:=ht
 unfold setFlight
 refine wpAny_bind (wpAny_field he hd h1 ?_)
 rw[if_pos (show(Value.ref T != Value.none)=true from by simp)]
 have hl3:=(aU.mp h3).1
 have hs:=Heap.get?_update_self (Obj.mapFields (·.setIfInBounds 3 (fo.elim Value.none fun f=>rawInt f))) hT (Obj.isFreed_of_fields (Obj.data_mapFields hdT _))
 have other:∀b,b≠T->(s.heap.update T (Obj.mapFields (·.setIfInBounds 3 (fo.elim Value.none fun f=>rawInt f)))).get? b=s.heap.get? b:=fun b hb=>Heap.get?_update_other _ _ (Ne.symm hb)
 refine wpAny_setField hT hdT hl3 (h _ other (fun b o q=>?_) ⟨oe,vs,_,_,(other e (Ne.symm hTe)).trans he,hcl,hd,h1,hTe,hs,Obj.data_mapFields hdT _,?_,hdn⟩)
 ·by_cases hb:b=T
  ·subst hb;exact⟨_,hs⟩
  ·exact⟨o,(other b hb).trans q⟩
 ·rw[c7 hl3]
theorem leaveW{base:Heap}{env:Env}{outer:List Env}{L e T:Addr}{cls w:Value}{Q:Unit->dw->Prop}
  (hfr:A.frames=some (env::outer)) (hl:s.heap.FunFrames base (env::outer)) (hf:env.frame=some L) (ht:ThrW s.heap e T cls w)
  (h:∀h' T',(∀b o,b∉frs (env::outer)->b∉[e,T]->s.heap.get? b=some o->h'.get? b=some o)->(∀b o,b∈frs (env::outer)->b∉[e,T]->s.heap.get? b=some o->∃sl,h'.get? b=some { o with slots:=sl })->(∀b o,s.heap.get? b=some o->∃o',h'.get? b=some o') →
   (T'=T∨s.heap.objs.size≤T')->Thr h' e T' cls->Q () { s with heap:=h' }):wpAny M A (leaving env (.ref e)) Q E s:=by
 have ht0:=ht
 obtain⟨oe,vs,oT,ts,he,rfl,hd,h1,hTe,hT,hdT,h3,hdn⟩:=ht
 refine z6t ?_
 unfold noteFrame
 simp only[hf]
 refine wpAny_bind (wpAny_field he hd h1 ?_)
 rw[if_pos (show(Value.ref T != Value.none)=true from by simp)]
 refine wpAny_bind (wpAny_field hT hdT h3 ?_)
 by_cases hw:(w==rawInt L)=true
 ·rw[if_pos hw]
  refine wpAny_pure (y9i ht0 fun h' k1 k2 t'=>h h' T (fun b o _ hc q=>(k1 b fun z=>hc (by simp[z])).trans q) (fun b o _ hc q=>⟨o.slots,(k1 b fun z=>hc (by simp[z])).trans q⟩) k2 (.inl rfl) t')
 ·rw[if_neg hw]
  refine wpAny_bind (wpAny_setField hT hdT (aU.mp h3).1 ?_)
  have other:∀b,b≠T->(s.heap.update T (Obj.mapFields (·.setIfInBounds 3 Value.none))).get? b=s.heap.get? b:=fun b hb=>Heap.get?_update_other _ _ (Ne.symm hb)
  have noRecord:∀b o,s.heap.get? b=some o->(∀vs,o.data≠.fields vs)->b≠T:=fun b o hb hnf q=>by
   rw[q,hT]at hb;injection hb with hb;subst hb;exact hnf ts hdT
  refine z9s hfr (hl.of_keeps fun b o hb hnf=>⟨o,(other b (noRecord b o hb hnf)).trans hb,rfl⟩) hf ((other e (Ne.symm hTe)).trans he) hd (aU.mp h1).1 hdn fun h' G=>?_
  obtain⟨T',h5,h6⟩:=G.thr
  refine h h' T' (fun b o hb hc e1=>G.keep b o hb (fun z=>hc (ai.mpr (.inl (ag.mp z)))) ((other b fun z=>hc (by simp[z])).trans e1)) (fun b o hb hc e1=>G.slot b o hb (fun z=>hc (ai.mpr (.inl (ag.mp z)))) ((other b fun z=>hc (by simp[z])).trans e1)) (fun b o e1=>?_) (.inr (by rwa [Heap.size_after_update]at h5)) h6
  by_cases hb:b=T
  ·have e2:(s.heap.update T (Obj.mapFields (·.setIfInBounds 3 Value.none))).get? b=some (Obj.mapFields (·.setIfInBounds 3 Value.none) oT):=by
    rw[hb]
    exact Heap.get?_update_self _ hT (Obj.isFreed_of_fields (Obj.data_mapFields hdT _))
   exact G.there b _ e2
  ·exact G.there b o ((other b hb).trans e1)
end
def XL(X:Cx)(cl:Nat->Value)(RX:XR):Prop:=∀(pins:AO) (σ:St) (H:Hp) (s:dw) (ea T:Addr) (c:Nat) (w:Value),Inv X pins σ H s->FpX X pins H ea->FpX X pins H T->ThrW s.heap ea T (cl c) w->RX c σ H->X.xe (.ref ea) s
section
variable{P:fw}{w:fx}{K:aa}{mg:Str->Option Value}{base:Heap}
theorem xl_def{N:List Str}{qual:Str}{scope:fI}{f:Addr}{cd:Value}{A:Around}{outer:List Env}{s:dw}{H:Hp}{E:XK}{cl:Nat->Value}:XL (z8p (CXE P w) P w K mg base N qual scope f cd A outer s H E) cl (fun c _ H=>E (cl c) none H):=by
 intro pins σ H1 s1 ea T c w' I fe fT th hE
 refine leaveW (base:=base) (outer:=outer) I.ok.frames I.stack rfl th fun h' T' k1 k2 k3 hT' th'=>?_
 have I':=I.gone3 (ch:=[ea,T]) k1 k2 k3 fun b hb=>by
  rcases ai.mp hb with rfl | hb
  ·exact fe
  ·rw[ag.mp hb];exact fT
 have nn:∀b,FpX (z8p (CXE P w) P w K mg base N qual scope f cd A outer s H E) pins H1 b->s.heap.get? b=none:=fun b fb=>by
  rcases fb.2.2.1 with z | z
  ·exact absurd (show b∈([]:List Addr) from z) (by simp)
  ·exact z
 have hT:s.heap.get? T'=none∧H1 T'=none:=by
  rcases hT' with rfl | z
  ·exact⟨nn _ fT,fT.1⟩
  ·exact⟨Heap.get?_none_of_le (aI I.sz z),I.hok.fresh z⟩
 exact⟨ea,T',cl c,H1,rfl,I'.os,I'.bare,I'.base,I'.hok,nn _ fe,hT.1,fe.1,hT.2,th',hE⟩
end
section
variable{X:Cx}{N':List Str}{sc:fI}{pins:AO}{σ:St}{H:Hp}{s:dw}{fp:List Addr}{cl:Nat->Value}{RXc:Nat->Hp->Prop}{use:Option (Value->Sem Unit)}{Q:Value->dw->Prop}{acc:Value}
theorem xw_comp(hst:X.stack=X.env::X.outer)(hfr:∃L,X.env.frame=some L)(hL:XL X cl (fun c _ H=>RXc c H))(I:Inv X pins σ H s)(hf:∀b∈fp,y0B X pins H b):
  XW (z0A X N' sc s H fp pins (notedBy (model X.prog X.w) X.A (compEnvC sc (cellsFrom (s.heap.objs.size+1) sc.names (z2P X.env.cells sc.names [])) s.heap.objs.size X.env) fun e s'=>compPost (model X.prog X.w) X.A X.xe use Q acc s.heap.objs.size (.error e) s')) cl (fun c _ H=>RXc c H):=by
 intro pins' σ' H' s' ea T c J fe fT th hE
 obtain⟨L,hL0⟩:=hfr
 show wpAny (model X.prog X.w) X.A (noteFrame (.ref ea) X.env) _ _ s'
 have fr:=I.ok.frames
 have stk:s'.heap.FunFrames X.base X.stack:=J.stack
 rw[hst]at fr stk
 refine y5H fr stk hL0 th fun h1 G=>?_
 have J1:=J.gone3 (ch:=[ea,T]) (h':=h1) (by show ∀b o,b∉frs X.stack->_;rw[hst];exact G.keep) (by show ∀b o,b∈frs X.stack->_;rw[hst];exact G.slot) G.there fun b hb=>by
  rcases ai.mp hb with rfl | hb
  ·exact fe
  ·rw[ag.mp hb];exact fT
 have J2:Inv (z0A X N' sc s H fp pins (notedBy (model X.prog X.w) X.A (compEnvC sc (cellsFrom (s.heap.objs.size+1) sc.names (z2P X.env.cells sc.names [])) s.heap.objs.size X.env) fun e s'=>compPost (model X.prog X.w) X.A X.xe use Q acc s.heap.objs.size (.error e) s')) [] σ' H' { s' with heap:=h1 }:=
  ⟨J1.ok,J1.os,J1.bare,J1.base,J1.loc,J1.cell,J1.free,J1.freeC,fun p hp=>J1.pin p (by rw[aF]at hp;exact aQ _ hp),J1.hok,J1.len⟩
 have I2:=z5K I hf J2
 obtain⟨T',hT',th'⟩:=G.thr
 obtain⟨m,hn,_⟩:=J2.loc
 refine⟨m,hn,fun h2 hb cenv hcenv=>?_⟩
 have hC:H' s.heap.objs.size=none:=J2.free
 have I3:=y0Y I I2 hC hb
 have szJ:s.heap.objs.size<s'.heap.objs.size:=J.lt
 have neC:ea≠s.heap.objs.size:=fe.2.1
 have neT:T'≠s.heap.objs.size:=b7 (aK szJ hT')
 have th2:ThrW h2 ea T' (cl c) (rawInt L):=by
  obtain⟨oe,vs,oT,ts,a1,a2,a3,a4,a5,a6,a7,a8,a9⟩:=th'
  exact⟨oe,vs,oT,ts,(hb.2 ea neC).trans a1,a2,a3,a4,a5,(hb.2 T' neT).trans a6,a7,a8,a9⟩
 have fT':FpX X pins H' T':=I.fpX (Heap.get?_none_of_le (aI (cq szJ) hT')) (J.hok.fresh hT')
 have fe':FpX X pins H' ea:=by
  rcases fe.2.2.1 with z | z
  ·obtain⟨_,b2,_,b4,b5,b6⟩:=hf ea z
   exact⟨fe.1,b2,b4.imp id fun q=>Heap.get?_none_of_le q,b5,b6⟩
  ·exact I.fpX z fe.1
 unfold PySem.passOn
 obtain⟨oe,vs,oT,ts,a1,a2,a3,a4,a5,a6,a7,a8,a9⟩:=th2
 refine wpAny_bind (wpAny_field a1 a3 a4 ?_)
 rw[if_neg (show ¬ ((Value.ref T'==Value.none)=true) from by simp)]
 refine wpAny_bind (y9i (s:={ s' with heap:=h2 }) ⟨oe,vs,oT,ts,a1,a2,a3,a4,a5,a6,a7,a8,a9⟩ fun h3 k1 k2 t3=>wpAny_throw ?_)
 have I4:=I3.gone3 (ch:=[T']) (h':=h3) (fun b o _ hc q=>(k1 b fun z=>hc (by simp[z])).trans q) (fun b o _ hc q=>⟨o.slots,(k1 b fun z=>hc (by simp[z])).trans q⟩) k2 fun b hb=>by rw[ag.mp hb];exact fT'
 exact hL pins σ H' _ ea T' c _ I4 fe' fT' t3 hE
end
def altO(g h:SS->Option Out):SS->Option Out:=fun δ=>match g δ with
 |some o=>some o
 |none=>h δ
def exc1(fi:DS->Option (List D))(F:DS->Option XO):SS->Option Out:=fun δ=>(fi (z0w δ)).bind fun xs=>match xs with
 |x::_=>(F (z0w δ++[some x])).bind fun o=>match o with
  |.exc c=>some (.ex c δ)
  |_=>none
 |[]=>none
section
variable{X:Cx}{st:Stmt}{g h:SS->Option Out}{H0:Hp}{B0:Addr->Prop}{fr:Bool}{RX:XR}
theorem s_or(h1:PS X st (tS X.K H0 B0 fr RX g))(h2:PS X st (tS X.K H0 B0 fr RX h)):PS X st (tS X.K H0 B0 fr RX (altO g h)):=fun pins s σ H D I ⟨δ,R,o,rs,q,k⟩=>by
 unfold altO at q
 cases e:g δ with
 |some o'=>
  rw[e]at q
  cases q
  exact h1 pins s σ H D I ⟨δ,R,o,rs,e,k⟩
 |none=>
  rw[e]at q
  exact h2 pins s σ H D I ⟨δ,R,o,rs,q,k⟩
end
section
variable{X:Cx}{N':List Str}{k n:Nat}{sc:fI}{tg iter elt e:Expr}{ifs:List Expr}{pos p px:Pos}{x:Str}{gt:TG}{tc:TT}{te:TE}{wi:TI}{cl:Nat->Value}{RXc:Nat->Hp->Prop}{fi:DS->Option (List D)}{F:DS->Option XO}{H0:Hp}{B0:Addr->Prop}{fr:Bool}
theorem x0r{i:Nat}{y:Str}{py spos:Pos}(hst:X.stack=X.env::X.outer)(hfr:∃L,X.env.frame=some L)(hL:XL X cl (fun c _ H=>RXc c H))(hc:X.calm=true)(S:CompScope X.N X.env.scope.names N' k sc)(hN:X.N.Nodup)(hy:X.N[i]? = some y)(hyl:X.env.scope.names.lookup y=some .local)(hi:PI X tg iter wi)
  (hg:∀s H fp pins E,PG (z0A X N' sc s H fp pins E) tg gt) (ht:∀s H fp pins E,y6e (z0A X N' sc s H fp pins E) ifs tc) (he:∀s H fp pins E,XW (z0A X N' sc s H fp pins E) cl (fun c _ H=>RXc c H)->PE (z0A X N' sc s H fp pins E) elt te)
  (hsw:swapsWith (.ListComp elt [⟨tg,iter,ifs,0⟩] sc pos) (some (.Name y py)) spos.line X.env=pure true:=by rfl) (hs:∀x,foldedSetIterable iter X.env x=pure x:=by intro _;rfl):
  PS X (.Assign [.Name y py] (.ListComp elt [⟨tg,iter,ifs,0⟩] sc pos) spos) (tAsg (y5Y wi gt tc te k) (z2w i)):=by
 intro pins s σ H D I h
 rw[exec_Assign_Name_used _ _ _ _ hsw]
 refine wpAny_bind (wpAny_standAt (wpAny_bind ?_))
 show wpAny _ X.A (do let _ ←comprehension (.ListComp elt [⟨tg,iter,ifs,0⟩] sc pos) sc X.env _ (newList []) false (eval iter X.env) (some (fF (.Name y py) X.env))) _ _ s
 refine wpAny_bind (wpAny_mono (wpAny_comprehension_free (use:=some (fF (.Name y py) X.env)) (Q:=fun _ s'=>SP X pins D .next s') rfl hs (z2s fun n hn=>I.ok.has n (S.fr hn)) S.kind S.names'
  (thn (hi pins s σ H _ I h) fun v s1 h1=>thn h1 fun itv s2 h2=>?_)) (fun _ s' hq=>wpAny_pure (wpAny_pure hq)) fun _ _ e=>e)
 obtain⟨it,fp,tn,J,H2,e,I2,T,st2,f2,hW⟩:=h2
 subst e
 refine z5Y (PC:=fun s H E=>XW (z0A X N' sc s H fp pins E) cl (fun c _ H=>RXc c H)) (Q:=fun v H'=>D.nx (σ.set i (some v)) H') (RR:=fun acc C=>compPost (model X.prog X.w) X.A X.xe (some (fF (.Name y py) X.env)) (fun _ s'=>SP X pins D .next s') acc C) hc S (fun s H E hw=>⟨hg s H _ _ E,ht s H _ _ E,he s H _ _ E hw⟩)
  (fun D s3 H3 I3 hf3=>xw_comp hst hfr hL I3 hf3) I2 T st2 f2 hW ?_
 intro a s3 H3 σ' H' s' E' I3 f3 J' q
 have J2:=z5K I3 f3 J'
 obtain⟨m,hn,_⟩:=J'.loc
 show wpAny _ X.A (fF (.Name y py) X.env (.ref a)) _ _ _
 refine wpAny_assign_Name (z7g J2 hN hy (.inl hyl) (v:=.ref a) rfl (fun s4 I4 hsb=>?_) (.inr hyl))
 obtain⟨b,hb,hb'⟩:=hsb
 have hne:b≠s3.heap.objs.size:=by
  rcases hb' with z | z
  ·rw[z];exact aE I3.lt
  ·obtain⟨v,w'⟩:=I3.cell y b z
   exact aE w'.lt
 refine⟨m,hn.sameBut hb (Ne.symm hne),fun h' hb2=>⟨_,H',?_,q⟩⟩
 refine I4.turned (t':=s4.toks) (it:=s3.heap.objs.size) (fun b o hne e=>(hb2.2 b hne).trans e) J'.free (b7 I3.lt) (.inr I3.sz) (fun x c e=>?_) fun p hp=>?_
 ·obtain⟨v,q⟩:=I3.cell x c e
  exact aE q.lt
 ·exact aE (Heap.lt_size (I3.pin p hp).1)
theorem s_asgCE{i:Nat}{y:Str}{py spos:Pos}(hst:X.stack=X.env::X.outer)(hfr:∃L,X.env.frame=some L)(hL:XL X cl (fun c _ H=>RXc c H))(hN:X.N.Nodup)(hy:X.N[i]? = some y)(hyl:X.env.scope.names.lookup y=some .local)(hc:X.calm=true)(S:CompScope X.N X.env.scope.names N' 1 sc)(hn:n=X.N.length)(hi:PID X (.Name x px) iter fi)
  (hg:∀s H fp pins E,PG (z0A X N' sc s H fp pins E) (.Name x px) (z2w n)) (ht:∀s H fp pins E,y6e (z0A X N' sc s H fp pins E) ifs (tT X.K z5z)) (he:∀s H fp pins E,XW (z0A X N' sc s H fp pins E) cl (fun c _ H=>RXc c H)->PE (z0A X N' sc s H fp pins E) elt (tXS X.K (fun c _ H=>RXc c H) F))
  (hsw:swapsWith (.ListComp elt [⟨.Name x px,iter,ifs,0⟩] sc pos) (some (.Name y py)) spos.line X.env=pure true:=by rfl) (hs:∀x,foldedSetIterable iter X.env x=pure x:=by intro _;rfl):
  PS X (.Assign [.Name y py] (.ListComp elt [⟨.Name x px,iter,ifs,0⟩] sc pos) spos) (tS X.K H0 B0 fr (fun c _ H=>RXc c H) (exc1 fi F)):=by
 intro pins s σ H D I ⟨δ,R,o,rs,q,kk⟩
 refine x0r hst hfr hL hc S hN hy hyl hi hg ht he hsw hs pins s σ H D I ?_
 have hσ:σ.length=n:=by rw[hn,I.len]
 unfold exc1 at q
 cases e1:fi (z0w δ)with
 |none=>rw[e1]at q;cases q
 |some xs=>
 rw[e1,aj]at q
 cases xs with
 |nil=>cases q
 |cons d0 r=>
 have q:((F (z0w δ++[some d0])).bind fun o=>match o with | .exc c=>some (Out.ex c δ) | _=>none)=some o:=q
 cases e2:F (z0w δ++[some d0])with
 |none=>rw[e2]at q;cases q
 |some xo=>
 rw[e2,aj]at q
 cases xo with
 |val d=>cases q
 |exc c=>
 cases q
 refine⟨noB,z0w δ,d0::r,.no,rs.all,e1,fun J H1 s1 itw=>fun Da hD=>?_⟩
 have it:=itw (fun a=>H1 a=none) fun a ha=>ha
 refine⟨fun i m σ' H'=>i=0∧(∃w,σ'=σ++[w])∧Same H1 H',⟨0,rfl,⟨none,rfl⟩,z0s hD⟩,?_⟩
 rintro i m σ' H' ⟨rfl,⟨w,rfl⟩,sm⟩
 have kp:Keep X.K (fun a=>noB a∨H1 a=none) H1 H':=.same sm
 refine .inr ⟨it.go 0 H' kp (Nat.succ_pos _),fun _ _=>False,fun _ _ z=>z.elim,fun xv H2 hy=>?_⟩
 obtain⟨s2,d,hd,rd⟩:=it.yld 0 H' xv H2 kp hy
 have hd0:some d0=some d:=hd (Nat.succ_pos _)
 cases hd0
 show tT X.K z5z ((σ++[w]).set n (some xv)) H2 _
 rw[←hσ,z6V]
 have S2:RepS X.K H2 noB (σ++[some xv]) (z0w δ++[some d0]):=(((rs.all.mono s1).mono sm).mono s2).snoc (rd.anti fun a z=>z.elim)
 refine⟨noB,z0w δ++[some d0],true,.no,S2,rfl,fun H3 s3=>iteT ?_⟩
 have st:=((s1.trans sm).trans s2).trans s3
 exact⟨noB,z0w δ++[some d0],.exc c,.no,S2.mono s3,e2,fun H4 s4=>kk σ H4 R (rs.mono (st.trans s4)) (.same (st.trans s4))⟩
end
section
end
section
end
section
end
section
end
def strE:Expr->Option Str
 |.Constant (.str i) _ _=>some i
 |_=>none
theorem y9T{e:Expr}{x:Str}(h:strE e=some x):∃j p,e = .Constant (.str x) j p:=by
 unfold strE at h
 split at h
 ·cases h;exact⟨_,_,rfl⟩
 ·cases h
def y5f:List Expr->Option (List Str)
 |[]=>some []
 |e::r=>(strE e).bind fun x=>(y5f r).map (x :: ·)
def dLitS(ts:List Str):DS->Option (List D):=fun _=>some (ts.map .str)
section
variable{X:Cx}{pos:Pos}
theorem se_con{c:Const}{j}{p:Pos}{es:List Expr}{env:Env}:starEach (.Constant c j p::es) env=(false,eval (.Constant c j p) env)::starEach es env:=rfl
theorem x0W{es:List Expr}:∀{ts:List Str},y5f es=some ts->PAD X es (ts.map fun x=>dC (.str x)):=by
 induction es with
 |nil=>intro rs h;cases h;exact z0d
 |cons e r ih=>
  intro rs h
  have h:((strE e).bind fun x=>(y5f r).map (x :: ·))=some rs:=h
  cases e1:strE e with
  |none=>rw[e1]at h;cases h
  |some x=>
   rw[e1,aj]at h
   cases e3:y5f r with
   |none=>rw[e3]at h;cases h
   |some ns=>
    rw[e3]at h
    cases h
    obtain⟨x1,p,rfl⟩:=y9T e1
    exact z0a z0F (ih e3) se_con
theorem y0F(δ:DS):∀ts:List Str,z0j (ts.map fun x=>dC (.str x)) δ=some (ts.map .str)
 |[]=>rfl
 |r::rs=>by
  have ih:=y0F δ rs
  show((dC (.str r) δ).bind fun x=>(z0j (rs.map fun x=>dC (.str x)) δ).bind fun xs=>some (x::xs))=_
  rw[ih]
  rfl
theorem x2d(ts:List Str):z0j (ts.map fun x=>dC (.str x))=dLitS ts:=by
 funext δ
 rw[y0F]
 rfl
theorem pf_litS{es:List Expr}{ts:List Str}(h:y5f es=some ts)(hb:ee ts.length 1000=true):PF X (.List es pos) (dLitS ts):=by
 rw[←x2d]
 exact z0x (x0W h) (by rw[ao];exact bU hb)
end
section
variable{X:Cx}{H0:Hp}{B0:Addr->Prop}{fr:Bool}{RX:XR}
theorem sb{st:Stmt}{g:SS->Option Out}(h:PS X st (tS X.K H0 B0 fr RX g)):PSb X st (tS X.K H0 B0 fr RX g):=by
 unfold PSb
 exact h
end
section
end
def FnG(K:aa)(x:Str)(st:Stmt):Prop:=∃f fd,aD K mainGlobals x=some (some (.ref f))∧Fun K x x st f fd
def FnB(K:aa)(mg:Str->Option Value)(x:Str)(st:Stmt)(ps:List Str):Prop:=∃f fd,Fun K x x st f fd∧mg x=some (.ref f)∧Binds K fd ps []
section
variable{K:aa}{x:Str}{st:Stmt}{h:Heap}{mg:Str->Option Value}
theorem x0J{ps:List Str}(X:K.In h)(G:h.Ns mainGlobals mg)(F:FnG K x st)(hb:∀(kV doc pm:Value) (an:Option Addr) (cdv ct:Value) (us:List Value),us.length=ps.length->bindArgs (bu x x (z2J st) (z0X st) (z0g st) .none kV doc pm an cdv ct) ⟨us,[]⟩=pure (ps.zip us)):FnB K mg x st ps:=
 let⟨f,fd,a,F⟩:=F
 ⟨f,fd,F,d8 X G a,F.binds hb⟩
theorem fg1{p0:Str}(X:K.In h)(G:h.Ns mainGlobals mg)(F:FnG K x st)(hb:∀(kV doc pm:Value) (an:Option Addr) (cdv ct u0:Value),bindArgs (bu x x (z2J st) (z0X st) (z0g st) .none kV doc pm an cdv ct) ⟨[u0],[]⟩=pure ([p0].zip [u0]):=by intros;rfl):FnB K mg x st [p0]:=
 x0J X G F fun _ _ _ _ _ _ us hl=>match us,hl with | [_],_=>hb _ _ _ _ _ _ _
theorem fg2{p0 p1:Str}(X:K.In h)(G:h.Ns mainGlobals mg)(F:FnG K x st)(hb:∀(kV doc pm:Value) (an:Option Addr) (cdv ct u0 u1:Value),bindArgs (bu x x (z2J st) (z0X st) (z0g st) .none kV doc pm an cdv ct) ⟨[u0,u1],[]⟩=pure ([p0,p1].zip [u0,u1]):=by intros;rfl):FnB K mg x st [p0,p1]:=
 x0J X G F fun _ _ _ _ _ _ us hl=>match us,hl with | [_,_],_=>hb _ _ _ _ _ _ _ _
theorem fg3{p0 p1 p2:Str}(X:K.In h)(G:h.Ns mainGlobals mg)(F:FnG K x st)(hb:∀(kV doc pm:Value) (an:Option Addr) (cdv ct u0 u1 u2:Value),bindArgs (bu x x (z2J st) (z0X st) (z0g st) .none kV doc pm an cdv ct) ⟨[u0,u1,u2],[]⟩=pure ([p0,p1,p2].zip [u0,u1,u2]):=by intros;rfl):FnB K mg x st [p0,p1,p2]:=
 x0J X G F fun _ _ _ _ _ _ us hl=>match us,hl with | [_,_,_],_=>hb _ _ _ _ _ _ _ _ _
theorem fg4{p0 p1 p2 p3:Str}(X:K.In h)(G:h.Ns mainGlobals mg)(F:FnG K x st)(hb:∀(kV doc pm:Value) (an:Option Addr) (cdv ct u0 u1 u2 u3:Value),bindArgs (bu x x (z2J st) (z0X st) (z0g st) .none kV doc pm an cdv ct) ⟨[u0,u1,u2,u3],[]⟩=pure ([p0,p1,p2,p3].zip [u0,u1,u2,u3]):=by intros;rfl):FnB K mg x st [p0,p1,p2,p3]:=
 x0J X G F fun _ _ _ _ _ _ us hl=>match us,hl with | [_,_,_,_],_=>hb _ _ _ _ _ _ _ _ _ _
theorem FnB.on{ps:List Str}{C:Prop}(B:FnB K mg x st ps)(k:∀{f:Addr} {fd:fy},Fun K x x st f fd->mg x=some (.ref f)->Binds K fd ps []->C):C:=
 let⟨_,_,F,m,b⟩:=B
 k F m b
theorem z0Q{N P:List Str}{sc:fI}(h:N.Nodup∧(∀x∈P,sc.names.lookup x=some .local∨sc.names.lookup x=some .cell)∧∀y∈sc.names,y.2≠.free:=by decide +kernel)(h1:sc.kind = .function:=by rfl)(h2:sc.isCoroutine=false:=by rfl)(h3:sc.isGenerator=false:=by rfl)(h4:N.take P.length=P:=by rfl):FnScope N P sc:=
 ⟨h1,h2,h3,h.1,h4,h.2.1,h.2.2⟩
end
section
end
def AftP(p:Addr)(vs:List V)(K:aa)(H0:Hp)(B0:Addr->Prop)(fr:Bool)(H:Hp)(D:Ends):Out->Prop
 |.nx δ'=>∀σ' H' R',RS K H0 B0 H' σ' δ' R'->H' p=some (.lst vs)->(∀r,p∉R' r)->(∀a,H' a=none->H a=none)->D.nx σ' H'
 |.rt d=>∀v H',Ret K H0 B0 fr H' d v->(∀a,H' a=none->H a=none)->D.rt v H'
 |_=>False
def tP(p:Addr)(vs:List V)(K:aa)(H0:Hp)(B0:Addr->Prop)(fr:Bool)(g:SS->Option Out):TS:=fun D σ H=>∃δ R o,RS K H0 B0 H σ δ R∧H p=some (.lst vs)∧(∀r,p∉R r)∧g δ=some o∧AftP p vs K H0 B0 fr H D o
theorem AftP.back{p:Addr}{vs:List V}{K:aa}{H0:Hp}{B0:Addr->Prop}{fr:Bool}{H H1:Hp}{D:Ends}{o:Out}(h:AftP p vs K H0 B0 fr H D o)(s:∀a,H1 a=none->H a=none):AftP p vs K H0 B0 fr H1 D o:=by
 cases o with
 |nx δ'=>exact fun σ' H' R' r q n t=>h σ' H' R' r q n fun a z=>s a (t a z)
 |rt d=>exact fun v H' r t=>h v H' r fun a z=>s a (t a z)
 |_=>exact h
section
variable{X:Cx}{H0:Hp}{B0:Addr->Prop}{fr:Bool}{RX:XR}{st:Stmt}{sts:List Stmt}{p:Addr}{vs:List V}
theorem x0F{K:aa}{R:Nat->List Addr}{H:Hp}{D:Ends}{o:Out}(hp:H p=some (.lst vs))(nR:∀r,p∉R r)(k:AftP p vs K H0 B0 fr H D o):Aft K H0 B0 fr RX R H D o:=by
 cases o with
 |nx δ'=>exact fun σ' H' R' r t=>k σ' H' R' r (t.keep p _ hp nR) (fun r z=>by
   rcases t.from' r p z with⟨s,z⟩ | z
   ·exact nR s z
   ·rw[hp]at z;cases z) t.there
 |rt d=>exact k
 |bk _=>exact k.elim
 |ct _=>exact k.elim
 |rb _ _=>exact k.elim
 |ex _ _=>exact k.elim
theorem lp{g:SS->Option Out}(h:PS X st (tS X.K H0 B0 fr RX g)):PS X st (tP p vs X.K H0 B0 fr g):=PS.imp h fun D σ H ⟨δ,R,o,rs,hp,nR,q,k⟩=>⟨δ,R,o,rs,q,x0F hp nR k⟩
theorem z7l{g h:SS->Option Out}(h1:PS X st (tP p vs X.K H0 B0 fr g))(h2:PSs X sts (tP p vs X.K H0 B0 fr h)):PSs X (st::sts) (tP p vs X.K H0 B0 fr (z0E g h)):=(z9G h1 h2).imp fun D σ H ⟨δ,R,o,rs,hp,nR,q,k⟩=>by
 unfold z0E at q
 cases e:g δ with
 |none=>rw[e]at q;cases q
 |some o1=>
  rw[e]at q
  refine⟨δ,R,o1,rs,hp,nR,e,?_⟩
  cases o1 with
  |nx δ'=>
   have q':h δ'=some o:=q
   exact fun σ' H' R' rs' hp' nR' t=>⟨δ',R',o,rs',hp',nR',q',k.back t⟩
  |rt d=>cases q;exact k
  |bk δ'=>cases q;exact k
  |ct δ'=>cases q;exact k
  |rb d δ'=>cases q;exact k
  |ex c δ'=>cases q;exact k
theorem sp_one{g:SS->Option Out}(h1:PS X st (tP p vs X.K H0 B0 fr g)):PSs X [st] (tP p vs X.K H0 B0 fr g):=x0a h1
end
def apT(i:Nat)(f:DE):SS->Option Out:=fun δ=>match δ[i]?,f (z0w δ)with
 |some (some (.sh (.tup [.int b,.lst (.int c::es)]))),some (.int n)=>if es.length+1<sizeLine∧(es.all fun d=>match d with | .int _=>true | _=>false)=true then some (.nx ((δ.map z5U).set i (some (.sh (.tup [.int b,.lst (.int c::es++[.int n])])))))else none
 |_,_=>none
theorem y3Y{K:aa}{H H':Hp}{B:Addr->Prop}{n:Int}:∀{es:List D} {vs:List V},(es.all fun d=>match d with | .int _=>true | _=>false)=true->Reps K H B es vs->Reps K H' B (es++[.int n]) (vs++[.int n])
 |[],vs,_,h=>by
  unfold Reps at h
  subst h
  exact .cons rfl .nil
 |d::es,vs,ha,h=>by
  rw[dv,aJ]at ha
  unfold Reps at h
  obtain⟨v,r,rfl,h1,h2⟩:=h
  cases d
  case int i=>
   unfold Rep at h1
   subst h1
   exact .cons rfl (y3Y ha.2 h2)
  all_goals exact absurd ha.1 (by simp)
theorem x0v{α:Type}{l:List α}{i:Nat}{x:α}(h:l[i]? = some x):l.set i x=l:=by
 obtain⟨hi,e⟩:=aL.mp h
 rw[←e]
 exact List.set_getElem_self hi
section
variable{X:Cx}{H0:Hp}{B0:Addr->Prop}{fr:Bool}{st1:Stmt}{f:DE}{p:Addr}{vs:List V}
theorem s_apT{i:Nat}(hO:∀a xs,H0 a≠some (.lst xs))(hvs:∀c r,vs≠.int c::r)(h1:PS X st1 (x1V (tBM X.K "list" z9D (tOp (rIxT X.K) (y1a i) (tD X.K (dC (.int 1)))) (tDs X.K (z0j [f]))))):
  PS X st1 (tP p vs X.K H0 B0 fr (apT i f)):=PS.imp h1 fun D σ H ⟨δ,R,o,rs,hp,nR,q,k⟩=>by
 unfold apT at q
 split at q
 case h_2=>cases q
 case h_1 b0 c es z ei ez=>
 split at q
 case isFalse=>cases q
 case isTrue hsz=>
 cases q
 obtain⟨v,ev,rv⟩:=rs.sh i _ ei
 have rv0:=rv
 unfold Rep at rv
 obtain⟨fa,xs,rfl,hfa,rx⟩:=rv
 unfold Reps at rx
 obtain⟨x0,xr,rfl,r0,rxr⟩:=rx
 unfold Reps at rxr
 obtain⟨x1,xr2,rfl,r1,r9⟩:=rxr
 unfold Reps at r9
 subst r9
 unfold Rep at r1
 obtain⟨b,ys,rfl,nb,hb,ry⟩:=r1
 have ly:=ry.length
 have ry0:=ry
 unfold Reps at ry
 obtain⟨y0,yr,rfl,rc,rr0⟩:=ry
 unfold Rep at rc
 subst rc
 have nbR:∀r,b∉R r:=fun r w=>nb (.inr ⟨r,w⟩)
 have npb:p≠b:=fun w=>by
  rw[w,hb]at hp
  cases hp
  exact hvs _ _ rfl
 refine⟨.ref fa,ev,noB,z0w δ,.int 1,.no,rs.all,rfl,fun v1 H1 s1 r1=>?_⟩
 cases (show v1=V.int 1 from r1)
 refine⟨fa,_,1,.ref b,rfl,rfl,s1.tup hfa,?_,.inl ⟨rfl,_,SqL.of (s1 _ _ hb)⟩,noB,z0w δ,[.int z],.no,rs.all.mono s1,?_,fun vs2 H2 s2 r2=>?_⟩
 ·show((ixN [x0,V.ref b].length 1).bind fun j=>[x0,V.ref b][j]?)=some (V.ref b)
  rfl
 ·unfold z0j
  rw[ez]
  rfl
 unfold Reps at r2
 obtain⟨v2,rr,rfl,r3,r4⟩:=r2
 unfold Reps at r4
 subst r4
 cases (show v2=V.int z from r3)
 have s12:=s1.trans s2
 refine⟨b,_,_,rfl,rfl,s12 _ _ hb,?_,?_⟩
 ·simp at ly ⊢;omega
 ·have R1:=(rs.mono s12).wrK (ys:=(.int c::yr)++[.int z]) hO (s12 _ _ hb) nbR
  have fr1:∀a,upd H2 b (.lst ((.int c::yr)++[.int z])) a=none->H a=none:=fun a w=>by
   have n1:a≠b:=fun e=>by rw[e,z0r]at w;cases w
   rw[z0y n1]at w
   exact s12.free w
  have mu:Mut (H2 b):=by rw[s12 _ _ hb];exact trivial
  have kp:Keep X.K (fun a=>a=b) H2 (upd H2 b (.lst ((.int c::yr)++[.int z]))):=Keep.upd rfl mu
  have rep:Rep X.K (upd H2 b (.lst ((.int c::yr)++[.int z]))) (fun a=>B0 a∨∃r,a∈R r) (.tup [.int b0,.lst (.int c::es++[.int z])]) (.ref fa):=by
   unfold Rep
   refine⟨fa,[x0,.ref b],rfl,kp.st _ _ (s12.tup hfa),?_⟩
   unfold Reps
   refine⟨x0,[.ref b],rfl,r0,?_⟩
   unfold Reps
   refine⟨.ref b,[],rfl,?_,.nil⟩
   unfold Rep
   refine⟨b,_,rfl,nb,z0r,?_⟩
   exact .cons rfl (y3Y hsz.2 rr0)
  have R2:=R1.setSh (i:=i) rep
  rw[x0v ev]at R2
  exact k σ _ R R2 (by rw[z0y npb];exact s12 _ _ hp) nR fr1
end
def x2N(i:Nat)(b:SS->Option Out):List D->SS->Option Out
 |[],δ=>some (.nx δ)
 |x::r,δ=>match b (δ.set i (some (.sh x)))with
  |some (.nx δ')=>x2N i b r δ'
  |some (.rt d)=>some (.rt d)
  |_=>none
def pinO(i:Nat)(ts:List Str)(g h:SS->Option Out):SS->Option Out:=fun δ=>match x2N i g (ts.map .str) δ with
 |some (.nx δ')=>(match h δ' with
  |some (.rt d)=>some (.rt d)
  |_=>none)
 |some (.rt d)=>some (.rt d)
 |_=>none
theorem y0v{K:aa}{H:Hp}{B:Addr->Prop}:∀{ts:List Str} {vs:List V},Reps K H B (ts.map .str) vs->vs=ts.map V.str
 |[],vs,h=>by unfold Reps at h;exact h
 |t::ts,vs,h=>by
  unfold Reps at h
  obtain⟨v,r,rfl,h1,h2⟩:=h
  unfold Rep at h1
  rw[h1,y0v h2]
  rfl
section
variable{X:Cx}{H0:Hp}{B0:Addr->Prop}{fr:Bool}{RX:XR}
def tPx(vs:List V)(K:aa)(H0:Hp)(B0:Addr->Prop)(fr:Bool)(g:SS->Option Out):TS:=fun D σ H=>∃p,tP p vs K H0 B0 fr g D σ H
theorem px_all{sts:List Stmt}{vs:List V}{g:SS->Option Out}(hb:∀p,PSs X sts (tP p vs X.K H0 B0 fr g)):PSs X sts (tPx vs X.K H0 B0 fr g):=by
 rintro pins s σ H D I ⟨p,h⟩
 exact hb p pins s σ H D I h
theorem ss_pin{i:Nat}{x:Str}{px lp pos:Pos}{es:List Expr}{body rest:List Stmt}{ts:List Str}{g h:SS->Option Out}(hp:PassesOwn (model X.prog X.w) X.A X.env X.xe)(hc:X.calm=true)(he:y5f es=some ts)(hbl:ee ts.length 1000=true)
  (hg:PG X (.Name x px) (z2w i)) (hb:∀p,PSs X body (tP p (ts.map V.str) X.K H0 B0 fr g)) (hr:PSs X rest (tS X.K H0 B0 fr RX h)) (hs:∀x,foldedSetIterable (.List es lp) X.env x=pure x:=by intro _;rfl):
  PSs X (.For (.Name x px) (.List es lp) body [] pos::rest) (tS X.K H0 B0 fr RX (pinO i ts g h)):=(z9G (y9D hp hc (x2V (pf_litS (pos:=lp) he hbl)) hg (px_all hb) hs) hr).imp fun D σ H ⟨δ,R,o,rs,q,k⟩=>by
 unfold pinO at q
 cases ef:x2N i g (ts.map L2.D.str) δ with
 |none=>rw[ef]at q;cases q
 |some o1=>
 rw[ef]at q
 refine⟨noB,z0w δ,ts.map .str,.no,rs.all,rfl,fun p xs H1 s1 hn h1 r1=>?_⟩
 have ex:=y0v r1
 subst ex
 have nR:∀r,p∉R r:=fun r z=>by
  obtain⟨o',e',_⟩:=rs.held r p z
  rw[hn]at e';cases e'
 refine⟨p,rfl,.inl ⟨⟨_,SqL.of h1⟩,?_⟩⟩
 refine⟨fun n m σ' H'=>m=ts.length - n∧n≤ts.length∧∃δ' R',RS X.K H0 B0 H' σ' δ' R'∧H' p=some (.lst (ts.map V.str))∧(∀r,p∉R' r)∧(∀a,H' a=none->H a=none)∧x2N i g ((ts.map L2.D.str).drop n) δ'=some o1,
  ⟨ts.length,by simp,bn _,δ,R,rs.mono s1,h1,nR,fun a z=>s1.free z,ef⟩,?_⟩
 rintro n m σ' H' ⟨rfl,hn',δ',R',rs',hp',nR',th,q'⟩
 by_cases hlt:n<ts.length
 ·have hx:(ts.map L2.D.str).drop n = .str ts[n]::(ts.map L2.D.str).drop (n+1):=by
   rw[bb (by rw[ao];exact hlt),bN]
  rw[hx]at q'
  unfold x2N at q'
  refine .inr ⟨⟨_,.str ts[n],SqL.of hp',by rw[aG,am hlt];rfl⟩,fun σ2 H2=>n+1≤ts.length∧∃δ' R',RS X.K H0 B0 H2 σ2 δ' R'∧H2 p=some (.lst (ts.map V.str))∧(∀r,p∉R' r)∧(∀a,H2 a=none->H a=none)∧x2N i g ((ts.map L2.D.str).drop (n+1)) δ'=some o1,fun σ2 H2 z=>⟨ts.length - (n+1),by omega,rfl,z⟩,fun xv H2 hy=>?_⟩
  obtain⟨rfl,hy⟩:=hy
  have hv:=hy _ (SqL.of hp')
  rw[aG,am hlt]at hv
  have hv:V.str ts[n]=xv:=Option.some.inj hv
  subst hv
  have rs2:=rs'.setSh (i:=i) (d:=.str ts[n]) (v:=.str ts[n]) (by unfold Rep;rfl)
  cases eb:g (δ'.set i (some (.sh (.str ts[n]))))with
  |none=>rw[eb]at q';cases q'
  |some ob=>
   rw[eb]at q'
   refine⟨p,_,R',ob,rs2,hp',nR',eb,?_⟩
   cases ob with
   |nx δ2=>exact fun σ3 H3 R3 rs3 hp3 nR3 t3=>⟨hlt,δ2,R3,rs3,hp3,nR3,fun a z=>th a (t3 a z),q'⟩
   |rt d=>
    cases q'
    cases q
    exact fun v H3 r3 t3=>k v H3 r3 fun a z=>th a (t3 a z)
   |bk _=>cases q'
   |ct _=>cases q'
   |rb _ _=>cases q'
   |ex _ _=>cases q'
 ·have en:n=ts.length:=by omega
  subst en
  rw[show(ts.map L2.D.str).drop ts.length=[] from bi (by simp)]at q'
  cases q'
  refine .inl ⟨⟨_,SqL.of hp',by simp⟩,?_⟩
  simp only at q
  cases eh:h δ' with
  |none=>rw[eh]at q;cases q
  |some o2=>
   rw[eh]at q
   cases o2 with
   |rt d=>
    cases q
    exact⟨δ',R',_,rs',eh,fun v H3 r3 t3=>k v H3 r3 fun a z=>th a (t3 a z)⟩
   |nx _=>cases q
   |bk _=>cases q
   |ct _=>cases q
   |rb _ _=>cases q
   |ex _ _=>cases q
end
def z8s(i:Nat)(F:DS->Option XO):SS->Option Out:=fun δ=>(F (shV δ)).map fun o=>match o with
 |.val d=>.nx (δ.set i (some (.sh d)))
 |.exc c=>.ex c δ
section
variable{X:Cx}{H0:Hp}{B0:Addr->Prop}{fr:Bool}{RX:XR}{F:DS->Option XO}
theorem s_asgXS{i:Nat}{st:Stmt}(h:PAsg X st i (tXS X.K RX F)):PS X st (tS X.K H0 B0 fr RX (z8s i F)):=PS.imp h fun D σ H ⟨δ,R,o,rs,q,k⟩=>by
 unfold z8s at q
 cases e1:F (shV δ)with
 |none=>rw[e1]at q;cases q
 |some o1=>
  rw[e1]at q
  refine⟨_,shV δ,o1,rs.inAll,rs.shr,e1,?_⟩
  cases o1 with
  |val d=>
   cases q
   exact fun v H' s r=>k _ H' R ((rs.mono s).setSh r) (.same s)
  |exc c=>
   cases q
   exact fun H' s=>k σ H' R (rs.mono s) (.same s)
end
end L2
namespace L2
open PySem
theorem y9S{np nl:Nat}{g:SS->Option Out}{ds:List D}{d:D}(hl:ds.length=np)(e:g (ds.map (fun d=>some (.sh d))++ad nl none)=some (.rt d)):z2g np nl g ds=some d:=by
 unfold z2g
 rw[if_pos hl,e]
theorem z1A{n:Nat}(h:n≤1000000):n≤sizeLine:=by rw[PySem.sizeLine_eq];omega
def bD(b:Bool):D:=.bl b
def z3n(r:List Bool):D:=.lst (r.map bD)
def z0q(T:LB):D:=.lst (T.map z3n)
theorem y4E{ds:List D}{k:Nat}{d:D}(h:ds[k]? = some d):ixD (.lst ds) (.int (k:Int))=some d:=z2q h
theorem y0q:∀bs:List Bool,z9W (bs.map bD)=some bs
 |[]=>rfl
 |b::bs=>by
  show(z9W (bs.map bD)).map (b :: ·)=_
  rw[y0q bs]
  rfl
theorem z2a:∀r:List Bool,z2d (r.map bD)=true
 |[]=>rfl
 |b::r=>by
  show(true&&z2d (r.map bD))=true
  rw[z2a r]
  rfl
theorem eq_self{d:D}(h:okP d=true):eqD d d=some (.bl true):=by
 unfold eqD
 rw[h]
 show(if(true&&true)=true then some (D.bl (PyData.eqv (toP d) (toP d)))else none)=_
 rw[if_pos (show(true&&true)=true from rfl),SeqAt.eqv_refl _ (z0C h).1]
theorem row_ix{r:List Bool}{k:Nat}(h:k<r.length):ixD (z3n r) (.int (k:Int))=some (.bl r[k]):=y4E (by rw[aG,am h];rfl)
theorem tab_ix{T:LB}{k:Nat}(h:k<T.length):ixD (z0q T) (.int (k:Int))=some (z3n T[k]):=y4E (by rw[aG,am h];rfl)
theorem y2f{n k:Nat}(h:k<n):ixN n (k:Int)=some k:=by
 unfold ixN
 rw[if_pos ⋯,if_pos ⋯]
 simp
def Sq(n:Nat)(T:LB):Prop:=T.length=n∧∀r∈T,r.length=n
theorem Sq.row{n:Nat}{T:LB}(h:Sq n T){k:Nat}(hk:k<T.length):T[k].length=n:=h.2 _ (bM hk)
theorem Sq.set{n:Nat}{T:LB}(h:Sq n T){a b:Nat}{v:Bool}(ha:a<T.length):Sq n (T.set a (T[a].set b v)):=by
 refine⟨by simp[h.1],fun r hr=>?_⟩
 rcases cM hr with z | z
 ·exact h.2 r z
 ·subst z
  rw[cY]
  exact h.row ha
theorem y5v{δ:DS}{f:DE}{r:List Bool}(e:f δ=some (z3n r)):z0u (z1z z6Q [f]) δ=some (z3n r):=by
 unfold z0u z1z z0j z0j
 rw[e]
 show(if z2d (r.map bD)=true then some (D.lst (r.map bD))else none)=_
 rw[if_pos (z2a r)]
 rfl
def hol{α:Type}(x:Option α)(Q:α->Prop):Prop:=∃a,x=some a∧Q a
section
variable{α:Type}{Q:α->Prop}
theorem z0c{a:α}:hol (some a) Q=Q a:=propext ⟨fun⟨_,e,q⟩=>by cases e;exact q,fun q=>⟨a,rfl,q⟩⟩
theorem hol_is{x:Option α}{a:α}:hol x (fun b=>b=a)↔x=some a:=⟨fun⟨_,e,q⟩=>q ▸ e,fun e=>⟨a,e,rfl⟩⟩
end
def asB:D->Option Bool
 |.bl b=>some b
 |_=>none
section
variable{Q:D->Prop}{QO:Out->Prop}{δ:DS}{s:SS}{h:DE}
theorem ho_var0{x:Option D}{r:DS}:z0b 0 (x::r)=x:=by cases x <;> rfl
def owA(i:Nat)(s:SS):Option D:=match s[i]? with
 |some (some (.ow d))=>some d
 |_=>none
theorem z0z{np nl:Nat}{b:SS->Option Out}{ds:List D}{d:D}(hl:ds.length=np)(h:hol (b (ds.map (fun d=>some (.sh d))++ad nl none)) fun o=>o = .rt d):z2g np nl b ds=some d:=y9S hl (hol_is.mp h)
theorem z5o{np nl:Nat}{b:SS->Option Out}{ds:List D}(hl:ds.length=np)(h:hol (b (ds.map (fun d=>some (.sh d))++ad nl none)) fun o=>∃d,o = .rt d∧Q d):hol (z2g np nl b ds) Q:=by
 obtain⟨o,e,d,rfl,q⟩:=h
 exact⟨d,y9S hl e,q⟩
theorem x0l{i:Nat}{b:SS->Option Out}{ds:List D}{s:SS}(I:Nat->SS->Prop)(h0:I 0 s)(hs:∀n (h:n<ds.length) δ,I n δ->hol (b (δ.set i (some (.sh ds[n])))) fun o=>match o with | .nx δ'=>I (n+1) δ' | .ct δ'=>I (n+1) δ' | .bk δ'=>QO (.nx δ') | .rt d=>QO (.rt d) | .rb d δ'=>QO (.rb d δ') | .ex c δ'=>QO (.ex c δ'))(he:∀δ,I ds.length δ->QO (.nx δ)):hol (z8i i b ds s) QO:=by
 induction ds generalizing s I with
 |nil=>exact⟨_,rfl,he _ h0⟩
 |cons x r ih=>
  obtain⟨o,e,q⟩:=hs 0 (by simp) s h0
  have e:b (s.set i (some (.sh x)))=some o:=e
  have step:∀s1,I 1 s1->hol (z8i i b r s1) QO:=fun s1 h1=>ih (fun n=>I (n+1)) h1 (fun n hn δ hI=>by
   have:=hs (n+1) (by simpa using hn) δ hI
   simpa using this) fun δ hI=>he δ (by simpa using hI)
  unfold z8i
  rw[e]
  cases o with
  |nx s1=>exact step s1 q
  |ct s1=>exact step s1 q
  |bk s1=>exact⟨_,rfl,q⟩
  |rt d=>exact⟨_,rfl,q⟩
  |rb d s1=>exact⟨_,rfl,q⟩
  |ex c s1=>exact⟨_,rfl,q⟩
theorem z3m{i:Nat}{b:SS->Option Out}{lo:Int}{m:Nat}{s:SS}(I:Nat->SS->Prop)(h0:I 0 s)(hs:∀n,n<m->∀δ,I n δ->hol (b (δ.set i (some (.sh (.int (lo+(n:Int))))))) fun o=>match o with | .nx δ'=>I (n+1) δ' | .ct δ'=>I (n+1) δ' | .bk δ'=>QO (.nx δ') | .rt d=>QO (.rt d) | .rb d δ'=>QO (.rb d δ') | .ex c δ'=>QO (.ex c δ'))(he:∀δ,I m δ->QO (.nx δ)):hol (z8i i b (z5y lo m) s) QO:=by
 refine x0l I h0 (fun n hn δ hI=>?_) fun δ hI=>he δ (by simpa[z5y] using hI)
 have hn':n<m:=by simpa[z5y] using hn
 have:=hs n hn' δ hI
 simpa[z5y] using this
theorem z1q{α:Type}{enc:α->D}{i:Nat}{b:SS->Option Out}{xs:List α}{s:SS}(I:List α->SS->Prop)(h0:I [] s)(hs:∀pre x post,xs=pre++x::post->∀δ,I pre δ->hol (b (δ.set i (some (.sh (enc x))))) fun o=>match o with | .nx δ'=>I (pre++[x]) δ' | .ct δ'=>I (pre++[x]) δ' | .bk δ'=>QO (.nx δ') | .rt d=>QO (.rt d) | .rb d δ'=>QO (.rb d δ') | .ex c δ'=>QO (.ex c δ'))(he:∀δ,I xs δ->QO (.nx δ)):hol (z8i i b (xs.map enc) s) QO:=by
 refine x0l (fun n δ=>I (xs.take n) δ) (by simpa using h0) (fun n hn δ hI=>?_) fun δ hI=>he δ (by simpa using hI)
 have hn':n<xs.length:=by simpa using hn
 have e:xs=xs.take n++xs[n]::xs.drop (n+1):=by
  rw[←bb hn',eT]
 have:=hs (xs.take n) xs[n] _ e δ hI
 rw[←List.take_succ_eq_append_getElem hn']at this
 rw[bN]
 exact this
end
def o2(F:D->D->Option D):Option D->Option D->Option D
 |some x,some y=>F x y
 |_,_=>none
def andO:Option D->Option D->Option D
 |some (.bl true),y=>y
 |some (.bl false),_=>some (.bl false)
 |_,_=>none
def andT:Option Bool->Option Bool->Option Bool
 |some true,y=>y
 |some false,_=>some false
 |_,_=>none
def orT:Option Bool->Option Bool->Option Bool
 |some true,_=>some true
 |some false,y=>y
 |_,_=>none
def iteO{α:Type}:Option Bool->Option α->Option α->Option α
 |some true,x,_=>x
 |some false,_,y=>y
 |_,_,_=>none
def consA:Option D->Option (List D)->Option (List D)
 |some x,some xs=>some (x::xs)
 |_,_=>none
def x0p:Option D->Option D
 |some d=>if d.imm=true then some d else none
 |none=>none
def z4j:Option (List D)->Option (List D)
 |some ds=>if z2d ds=true then some ds else none
 |none=>none
def z9N(x:Option Out)(b:SS->Option Out):Option Out:=match x with
 |some (.nx s)=>b s
 |o=>o
def rng1:Option D->Option (List D)
 |some (.int j)=>if -(2 ^ 62)≤j∧j<2 ^ 62 then some (z5y 0 j.toNat)else none
 |_=>none
def rng2:Option D->Option D->Option (List D)
 |some (.int i),some (.int j)=>if -(2 ^ 62)≤i∧i<2 ^ 62∧-(2 ^ 62)≤j∧j<2 ^ 62 then some (z5y i (j - i).toNat)else none
 |_,_=>none
def y3b(x:Option D)(lo hi:Option (Option Int)):Option (List D):=match x,lo,hi with
 |some (.lst ds),some l,some h=>some (z6G ds l h)
 |some (.scr ns),some l,some h=>some (z6G (ns.map .int) l h)
 |_,_,_=>none
def partO:Option D->Option (Option Int)
 |some (.int i)=>some (some i)
 |_=>none
def setO(mk:D->SD)(i:Nat)(x:Option D)(s:SS):Option Out:=match x with
 |some d=>some (.nx (s.set i (some (mk d))))
 |none=>none
def rtO:Option D->Option Out
 |some d=>some (.rt d)
 |none=>none
def forX(i:Nat)(ds:Option (List D))(b:SS->Option Out)(s:SS):Option Out:=match ds with
 |some ds=>z8i i b ds s
 |none=>none
def z8t(i:Nat)(x:Option D)(s:SS):Option Out:=match x with
 |some d=>some (.nx ((z0M i s).set i (some (.ow d))))
 |none=>none
def z1N(fc:DS->Option Bool)(fe:DE)(δ:DS):D->Option (Option D):=fun x=>(fc (δ++[some x])).bind fun k=>if k=true then(fe (δ++[some x])).map some else some none
def z1C(xs:Option (List D))(h:D->Option (Option D)):Option (List D):=match xs with
 |some xs=>if xs.length≤sizeLine then z1O h xs else none
 |none=>none
section
variable{f g h:DE}{δ:DS}{s:SS}{F:D->D->Option D}{c e:DS->Option Bool}{a b:SS->Option Out}{i:Nat}
theorem y7q{x:Option D}{r:DS}:z0b 0 (x::r)=x:=ho_var0
theorem y9g{x:Option D}{r:DS}:z0b (i+1) (x::r)=z0b i r:=(rfl)
theorem ev_C{d:D}:dC d δ=some d:=(rfl)
theorem ev_d2:d2 F f g δ=o2 F (f δ) (g δ):=by
 unfold d2 o2
 cases f δ <;> cases g δ <;> rfl
theorem ev_d1{G:D->Option D}:d1 G f δ=(f δ).bind G:=(rfl)
theorem x0k:z0D f δ=(f δ).bind asB:=by
 unfold z0D
 cases f δ with
 |none=>rfl
 |some d=>cases d <;> rfl
theorem y3I:z0v f δ=(f δ).bind z5S:=(rfl)
theorem y7d:z3T c e δ=andT (c δ) (e δ):=by
 unfold z3T
 rcases c δ with _ | _ | _ <;> rfl
theorem x3A:z9S c e δ=orT (c δ) (e δ):=by
 unfold z9S
 rcases c δ with _ | _ | _ <;> rfl
theorem x0d:z2B c δ=(c δ).map (!·):=(rfl)
theorem x3K:x3u f g δ=andO (f δ) (g δ):=by
 unfold x3u andO
 rcases f δ with _ | (_ | (_ | _) | _ | _ | _ | _ | _ | _) <;> rfl
theorem ev_if:dIf c f g δ=iteO (c δ) (f δ) (g δ):=by
 unfold dIf
 rcases c δ with _ | _ | _ <;> rfl
theorem y4u:z0j [] δ=some []:=(rfl)
theorem y3D{r:List DE}:z0j (f::r) δ=consA (f δ) (z0j r δ):=by
 show((f δ).bind fun x=>(z0j r δ).bind fun xs=>some (x::xs))=_
 cases f δ <;> cases z0j r δ <;> rfl
theorem y6q{M:List D->Option D}{fl:List DE}:z0k M fl δ=(z0j fl δ).bind M:=(rfl)
theorem y4h{M:List D->Option (List D)}{fl:List DE}:z1z M fl δ=(z0j fl δ).bind M:=(rfl)
theorem x2M{f:DS->Option (List D)}:mkL f δ=(f δ).map .lst:=(rfl)
theorem x2X{f:DS->Option (List D)}:mkT f δ=(f δ).map .tup:=(rfl)
theorem y1b{f:DS->Option (List D)}:z0u f δ=(z4j (f δ)).map .lst:=by
 unfold z0u z4j
 cases f δ with
 |none=>rfl
 |some ds=>
  show(if z2d ds=true then _ else _)=Option.map _ (if z2d ds=true then _ else _)
  split <;> rfl
theorem ev_is{T:String}:dIs T f δ=(f δ).map fun d=>.bl (isF T d):=(rfl)
theorem x2K:z4K f δ=(f δ).bind y4R:=(rfl)
theorem y6N:z1j f δ=rng1 (f δ):=(rfl)
theorem y7p:x1B f g δ=rng2 (f δ) (g δ):=(rfl)
theorem y9r{fi:DS->Option (List D)}:z1c fi c f δ=z1C (fi δ) (z1N c f δ):=by
 unfold z1c z1C
 cases fi δ <;> rfl
theorem y9P:z2A f δ=partO (f δ):=(rfl)
theorem y0D:z1a δ=some none:=(rfl)
theorem x3r{fl fh:DS->Option (Option Int)}:z7S f fl fh δ=y3b (f δ) (fl δ) (fh δ):=by
 unfold z7S y3b
 rcases f δ with _ | (_ | _ | _ | _ | _ | _ | _ | _) <;> first | rfl | (cases fl δ <;> cases fh δ <;> rfl)
theorem x0e:z0E a b s=z9N (a s) b:=by
 unfold z0E z9N
 rcases a s with _ | (_ | _ | _ | _) <;> rfl
theorem y8r:z0P s=some (.nx s):=(rfl)
theorem y6V:z5j i f s=setO .sh i (f (shV s)) s:=by
 unfold z5j setO
 cases f (shV s) <;> rfl
theorem y6R:y0o i f s=setO .sh i (x0p (f (z0w s))) s:=by
 unfold y0o setO x0p
 cases f (z0w s)with
 |none=>rfl
 |some d=>
  show(if d.imm=true then _ else _)=(match (if d.imm=true then some d else none)with | some d=>some (Out.nx (s.set i (some (SD.sh d)))) | none=>none)
  split <;> rfl
theorem y8q:z6S i f s=setO .ow i (f (z0w s)) s:=by
 unfold z6S setO
 cases f (z0w s) <;> rfl
theorem y9L:z2N f s=rtO (x0p (f (z0w s))):=by
 unfold z2N rtO x0p
 cases f (z0w s)with
 |none=>rfl
 |some d=>
  show(if d.imm=true then _ else _)=(match (if d.imm=true then some d else none)with | some d=>some (Out.rt d) | none=>none)
  split <;> rfl
theorem y8K:z8j f s=rtO (f (z0w s)):=by
 unfold z8j rtO
 cases f (z0w s) <;> rfl
theorem y8z:z8n f s=rtO (f (shV s)):=by
 unfold z8n rtO
 cases f (shV s) <;> rfl
theorem y9Q:y6h i s=rtO (owA i s):=by
 unfold y6h rtO owA
 rcases s[i]? with _ | _ | ⟨x | x | ⟨r,x⟩⟩ <;> rfl
theorem x2J:ifO c a b s=iteO (c (z0w s)) (a s) (b s):=by
 unfold ifO
 rcases c (z0w s)with _ | _ | _ <;> rfl
theorem y7y{fi:DS->Option (List D)}:z4N i fi b s=forX i (fi (shV s)) b s:=by
 unfold z4N forX
 cases fi (shV s) <;> rfl
theorem x2C:frzO i b s=b (x0H i s):=(rfl)
theorem eo_2{x y:D}:o2 F (some x) (some y)=F x y:=(rfl)
theorem x3E{x y:Bool}:andO (some (.bl x)) (some (.bl y))=some (.bl (x&&y)):=by cases x <;> rfl
theorem y9f{x y:Bool}:andT (some x) (some y)=some (x&&y):=by cases x <;> rfl
theorem y4q{y:Option Bool}:andT (some false) y=some false:=(rfl)
theorem x2F{x y:Bool}:orT (some x) (some y)=some (x||y):=by cases x <;> rfl
theorem y7L{y:Option Bool}:orT (some true) y=some true:=(rfl)
theorem y7e{α:Type}{x y:Option α}:iteO (some true) x y=x:=(rfl)
theorem y7Y{α:Type}{x y:Option α}:iteO (some false) x y=y:=(rfl)
theorem y6I{x:D}{xs:List D}:consA (some x) (some xs)=some (x::xs):=(rfl)
theorem eo_nx:z9N (some (.nx s)) b=b s:=(rfl)
theorem eo_rt{d:D}:z9N (some (.rt d)) b=some (.rt d):=(rfl)
theorem x3d{mk:D->SD}{d:D}:setO mk i (some d) s=some (.nx (s.set i (some (mk d)))):=(rfl)
theorem x2R{d:D}:rtO (some d)=some (.rt d):=(rfl)
theorem x3n{ds:List D}:forX i (some ds) b s=z8i i b ds s:=(rfl)
theorem y8o{n:Int}:x0p (some (.int n))=some (.int n):=(rfl)
theorem y6O{n:Bool}:x0p (some (.bl n))=some (.bl n):=(rfl)
theorem x0m{x:Str}:x0p (some (.str x))=some (.str x):=(rfl)
theorem z4u{ds:List D}(h:z2d ds=true):z4j (some ds)=some ds:=if_pos h
theorem y7m{n:Int}:partO (some (.int n))=some (some n):=(rfl)
theorem eo_rng1{n:Int}(h:-(2 ^ 62)≤n∧n<2 ^ 62):rng1 (some (.int n))=some (z5y 0 n.toNat):=if_pos h
theorem eo_rng2{m n:Int}(h:-(2 ^ 62)≤m∧m<2 ^ 62∧-(2 ^ 62)≤n∧n<2 ^ 62):rng2 (some (.int m)) (some (.int n))=some (z5y m (n - m).toNat):=if_pos h
theorem z5i{xs:List D}{k:D->Option (Option D)}(h:xs.length≤1000000):z1C (some xs) k=z1O k xs:=if_pos (z1A h)
section
variable{m n:Int}{p:Bool}{ds:List D}{ns:List Int}
theorem x3L:y6A (.int m) (.int n)=some (.int (m+n)):=(rfl)
theorem y9C(h:CMul m n):x3M (.int m) (.int n)=some (.int (m*n)):=if_pos h
theorem z4X(h:CDiv m n):z8h (.int m) (.int n)=some (.int (m / n)):=if_pos h
theorem z2n(h:0<n):z3U (.int m) (.int n)=some (.int (m % n)):=if_pos h
theorem x1A:ltI (.int m) (.int n)=some (.bl (decide (m<n))):=(rfl)
theorem x2n:leI (.int m) (.int n)=some (.bl (decide (m≤n))):=(rfl)
theorem ea_gt:gtI (.int m) (.int n)=some (.bl (decide (n<m))):=(rfl)
theorem x3y:eqD (.int m) (.int n)=some (.bl (decide (m=n))):=(rfl)
theorem x2U:neD (.int m) (.int n)=some (.bl (!decide (m=n))):=(rfl)
theorem x3R:x1S (.int m)=some (.int (-m)):=(rfl)
theorem x3J:uNot (.bl p)=some (.bl (!p)):=(rfl)
theorem y7J:z5S (.bl p)=some p:=(rfl)
theorem y9J:y4R (.lst ds)=some ds:=(rfl)
theorem y7O:z1M [.lst ds]=some (.int (ds.length:Int)):=(rfl)
theorem y9A:z1M [.tup ds]=some (.int (ds.length:Int)):=(rfl)
theorem y7Z:z1M [.scr ns]=some (.int (ns.length:Int)):=(rfl)
theorem x3t:ixD (.lst ds) (.int m)=atI ds m:=(rfl)
theorem x3g:ixD (.tup ds) (.int m)=atI ds m:=(rfl)
theorem x3P:ixD (.scr ns) (.int m)=(atI ns m).map .int:=(rfl)
theorem y6k:isF "bool" (.int m)=false:=(rfl)
theorem y9Y:isF "int" (.int m)=true:=(rfl)
theorem x3v:asB (.bl p)=some p:=(rfl)
end
theorem eb_bs{α β:Type}{a:α}{k:α->Option β}:(some a).bind k=k a:=(rfl)
theorem eb_ms{α β:Type}{a:α}{k:α->β}:(some a).map k=some (k a):=(rfl)
theorem eb_mn{α β:Type}{k:α->β}:(none:Option α).map k=none:=(rfl)
theorem eb_s0{α:Type}{x y:α}{r:List α}:(x::r).set 0 y=y::r:=(rfl)
theorem eb_sS{α:Type}{n:Nat}{x y:α}{r:List α}:(x::r).set (n+1) y=x::r.set n y:=(rfl)
theorem eb_mc{α β:Type}{x:α}{r:List α}{k:α->β}:(x::r).map k=k x::r.map k:=(rfl)
theorem y8X{α β:Type}{k:α->β}:([]:List α).map k=[]:=(rfl)
theorem eb_rS{α:Type}{n:Nat}{x:α}:ad (n+1) x=x::ad n x:=(rfl)
theorem eb_r0{α:Type}{x:α}:ad 0 x=[]:=(rfl)
theorem eb_ca{α:Type}{x:α}{r t:List α}:(x::r)++t=x::(r++t):=(rfl)
theorem eb_na{α:Type}{t:List α}:[]++t=t:=(rfl)
theorem y7i:z0w []=[]:=(rfl)
theorem y6r{x:Option SD}{r:SS}:z0w (x::r)=x.map SD.val::z0w r:=(rfl)
theorem x3O:shV []=[]:=(rfl)
theorem x3G{x:Option SD}{r:SS}:shV (x::r)=shO x::shV r:=(rfl)
theorem x3e{d:D}:shO (some (.sh d))=some d:=(rfl)
theorem y3S:z0M i []=[]:=(rfl)
theorem y3V{x:Option SD}{r:SS}:z0M i (x::r)=y2F i x::z0M i r:=(rfl)
theorem y0R{d:D}:y2F i (some (.sh d))=some (.sh d):=(rfl)
theorem y1f{d:D}:y2F i (some (.ow d))=some (.ow d):=(rfl)
theorem y4s:y2F i none=none:=(rfl)
theorem x2I{d:D}{r:SS}:owA 0 (some (.ow d)::r)=some d:=(rfl)
theorem x3I{x:Option SD}{r:SS}:owA (i+1) (x::r)=owA i r:=(rfl)
end
def y1r:Option (List D)->Option (List D):=z4j
def st0V(o k v:Option D):Option D:=match o,k,v with
 |some (.lst ds),some (.int k),some d=>(ixN ds.length k).map fun j=>.lst (ds.set j d)
 |_,_,_=>none
def st1V(o k j v:Option D):Option D:=match o,k,j,v with
 |some (.lst ds),some (.int k),some (.int j),some d=>(ixN ds.length k).bind fun k'=>(match ds[k']? with
  |some (.lst es)=>if z2d es=true then(ixN es.length j).map fun j'=>.lst (ds.set k' (.lst (es.set j' d)))else none
  |_=>none)
 |_,_,_,_=>none
def m0V(M:List D->List D->Option (List D))(o:Option D)(args:Option (List D)):Option D:=match o,args with
 |some (.lst ds),some args=>(M ds args).map .lst
 |_,_=>none
section
variable{fk fj fv:DE}{s:SS}{i:Nat}{M:List D->List D->Option (List D)}{fl:List DE}
theorem x3B{d:D}:z8t i (some d) s=some (.nx ((z0M i s).set i (some (.ow d)))):=(rfl)
theorem z4J{ds:List D}(h:z2d ds=true):y1r (some ds)=some ds:=if_pos h
def kI:D->Option Int
 |.int k=>some k
 |_=>none
def kL:D->Option (List D)
 |.lst ds=>some ds
 |_=>none
def kW:Option (Option SD)->Option D
 |some (some (.ow d))=>some d
 |_=>none
theorem x3z:owA i s=kW s[i]?:=by
 unfold owA kW
 generalize s[i]? = x
 rcases x with _ | _ | ⟨x | x | ⟨r,x⟩⟩ <;> rfl
theorem mt2{β:Type}{k:D}{x:Option (Option SD)}{F:Int->List D->Option β}:(match k,x with | .int k,some (some (.ow (.lst ds)))=>F k ds | _,_=>none)=(kI k).bind fun k=>((kW x).bind kL).bind fun ds=>F k ds:=by
 cases k with
 |int k=>rcases x with _ | _ | ⟨x | x | ⟨r,x⟩⟩ <;> first | rfl | (cases x <;> rfl)
 |_=>rfl
theorem mt3{β:Type}{k j:D}{x:Option (Option SD)}{F:Int->Int->List D->Option β}:(match k,j,x with | .int k,.int j,some (some (.ow (.lst ds)))=>F k j ds | _,_,_=>none)=(kI k).bind fun k=>(kI j).bind fun j=>((kW x).bind kL).bind fun ds=>F k j ds:=by
 cases k with
 |int k=>
  cases j with
  |int j=>rcases x with _ | _ | ⟨x | x | ⟨r,x⟩⟩ <;> first | rfl | (cases x <;> rfl)
  |_=>rfl
 |_=>rfl
theorem st0V_k{o k v:Option D}:st0V o k v=(o.bind kL).bind fun ds=>(k.bind kI).bind fun k=>v.bind fun d=>(ixN ds.length k).map fun j=>.lst (ds.set j d):=by
 rcases o with _ | o
 ·rfl
 ·cases o with
  |lst ds=>
   rcases k with _ | k
   ·rfl
   ·cases k with
    |int k=>cases v <;> rfl
    |_=>rfl
  |_=>rfl
theorem x3x{o k j v:Option D}:st1V o k j v=(o.bind kL).bind fun ds=>(k.bind kI).bind fun k=>(j.bind kI).bind fun j=>v.bind fun d=>(ixN ds.length k).bind fun k'=>(match ds[k']? with
  |some (.lst es)=>if z2d es=true then(ixN es.length j).map fun j'=>.lst (ds.set k' (.lst (es.set j' d)))else none
  |_=>none):=by
 rcases o with _ | o
 ·rfl
 ·cases o with
  |lst ds=>
   rcases k with _ | k
   ·rfl
   ·cases k with
    |int k=>
     rcases j with _ | j
     ·rfl
     ·cases j with
      |int j=>cases v <;> rfl
      |_=>rfl
    |_=>rfl
  |_=>rfl
theorem x0h{α:Type}{x:Option α}{F:α->Option D}:z8t i (x.bind F) s=x.bind fun a=>z8t i (F a) s:=by cases x <;> rfl
theorem z3f{α β:Type}{x:Option α}:(x.bind fun _=>(none:Option β))=none:=by cases x <;> rfl
theorem x3f:st0 i fk fv s=z8t i (st0V (owA i s) (fk (z0w s)) (x0p (fv (z0w s)))) s:=by
 have e:st0 i fk fv s=(fv (z0w s)).bind fun d=>if d.imm=true then(fk (z0w s)).bind fun dk=>(kI dk).bind fun k=>((kW s[i]?).bind kL).bind fun ds=>(ixN ds.length k).map fun j=>.nx ((z0M i s).set i (some (.ow (.lst (ds.set j d)))))else none:=by
  refine congrArg (Option.bind (fv (z0w s))) (funext fun d=>?_)
  refine congrArg (fun z=>if d.imm=true then z else none) ?_
  refine congrArg (Option.bind (fk (z0w s))) (funext fun dk=>?_)
  exact mt2 (F:=fun k ds=>(ixN ds.length k).map fun j=>Out.nx ((z0M i s).set i (some (.ow (.lst (ds.set j d))))))
 rw[e,st0V_k,x3z]
 simp only[x0h]
 generalize (kW s[i]?).bind kL=x
 rcases fv (z0w s)with _ | d
 ·show none=x.bind fun ds=>((fk (z0w s)).bind kI).bind fun k=>(none:Option Out)
  simp only[z3f]
 ·show(if d.imm=true then(fk (z0w s)).bind fun dk=>_ else none)=x.bind fun ds=>((fk (z0w s)).bind kI).bind fun k=>(if d.imm=true then some d else none).bind fun d=>_
  split
  ·rcases fk (z0w s)with _ | k
   ·simp only[bA,z3f]
   ·simp only[aj]
    cases kI k with
    |none=>simp only[bA,z3f]
    |some k=>
     simp only[aj]
     cases x with
     |none=>rfl
     |some ds=>
      simp only[aj]
      cases ixN ds.length k <;> rfl
  ·simp only[bA,z3f]
theorem kn{k j:Int}{d:D}{ds:List D}:((ixN ds.length k).bind fun k'=>(match ds[k']? with
   |some (.lst es)=>if z2d es=true then(ixN es.length j).map fun j'=>Out.nx ((z0M i s).set i (some (.ow (.lst (ds.set k' (.lst (es.set j' d)))))))else none
   |_=>none))=z8t i (st1V (some (.lst ds)) (some (.int k)) (some (.int j)) (some d)) s:=by
 show _=z8t i ((ixN ds.length k).bind _) s
 cases ixN ds.length k with
 |none=>rfl
 |some k'=>
  rw[aj,aj]
  cases ds[k']? with
  |none=>rfl
  |some y=>
   cases y with
   |lst es=>
    dsimp only
    split
    ·cases ixN es.length j <;> rfl
    ·rfl
   |_=>rfl
theorem x2z:st1 i fk fj fv s=z8t i (st1V (owA i s) (fk (z0w s)) (fj (z0w s)) (x0p (fv (z0w s)))) s:=by
 have e:st1 i fk fj fv s=(fv (z0w s)).bind fun d=>if d.imm=true then(fk (z0w s)).bind fun dk=>(fj (z0w s)).bind fun dj=>(kI dk).bind fun k=>(kI dj).bind fun j=>((kW s[i]?).bind kL).bind fun ds=>(ixN ds.length k).bind fun k'=>(match ds[k']? with
   |some (.lst es)=>if z2d es=true then(ixN es.length j).map fun j'=>.nx ((z0M i s).set i (some (.ow (.lst (ds.set k' (.lst (es.set j' d)))))))else none
   |_=>none)else none:=by
  refine congrArg (Option.bind (fv (z0w s))) (funext fun d=>?_)
  refine congrArg (fun z=>if d.imm=true then z else none) ?_
  refine congrArg (Option.bind (fk (z0w s))) (funext fun dk=>?_)
  refine congrArg (Option.bind (fj (z0w s))) (funext fun dj=>?_)
  exact mt3 (F:=fun k j ds=>(ixN ds.length k).bind fun k'=>(match ds[k']? with
   |some (.lst es)=>if z2d es=true then(ixN es.length j).map fun j'=>Out.nx ((z0M i s).set i (some (.ow (.lst (ds.set k' (.lst (es.set j' d)))))))else none
   |_=>none))
 rw[e,x3x,x3z]
 simp only[x0h]
 generalize (kW s[i]?).bind kL=x
 rcases fv (z0w s)with _ | d
 ·show none=x.bind fun ds=>((fk (z0w s)).bind kI).bind fun k=>((fj (z0w s)).bind kI).bind fun j=>(none:Option Out)
  simp only[z3f]
 ·show(if d.imm=true then(fk (z0w s)).bind fun dk=>_ else none)=x.bind fun ds=>((fk (z0w s)).bind kI).bind fun k=>((fj (z0w s)).bind kI).bind fun j=>(if d.imm=true then some d else none).bind fun d=>_
  split
  ·rcases fk (z0w s)with _ | k
   ·simp only[bA,z3f]
   ·simp only[aj]
    rcases fj (z0w s)with _ | j
    ·simp only[bA,z3f]
    ·simp only[aj]
     cases kI k with
     |none=>simp only[bA,z3f]
     |some k=>
      cases kI j with
      |none=>simp only[bA,aj,z3f]
      |some j=>
       simp only[aj]
       cases x with
       |none=>rfl
       |some ds=>
        have:=kn (i:=i) (s:=s) (k:=k) (j:=j) (d:=d) (ds:=ds)
        rw[x3x]at this
        simp only[aj,x0h,kL,kI]at this
        simp only[aj]
        exact this
  ·simp only[bA,z3f]
theorem ev_m0:m0 i M fl s=z8t i (m0V M (owA i s) (y1r (z0j fl (z0w s)))) s:=by
 unfold m0 owA
 rcases z0j fl (z0w s)with _ | args
 ·rcases s[i]? with _ | _ | ⟨x | x | ⟨r,x⟩⟩ <;> (first | rfl | (cases x <;> rfl))
 ·show(if z2d args=true then _ else _)=z8t i (m0V M _ (if z2d args=true then some args else none)) s
  split
  ·rcases s[i]? with _ | _ | ⟨x | x | ⟨r,x⟩⟩ <;> (first | rfl | (cases x <;> first | rfl | (rename_i ds;show Option.map _ (M ds args)=z8t i (Option.map _ (M ds args)) s;cases M ds args <;> rfl)))
  ·rcases s[i]? with _ | _ | ⟨x | x | ⟨r,x⟩⟩ <;> (first | rfl | (cases x <;> rfl))
end
theorem es_v1{d:D}:(SD.sh d).val=d:=(rfl)
theorem es_v2{d:D}:(SD.ow d).val=d:=(rfl)
theorem x2O{bs:List Bool}:allF [.lst (bs.map bD)]=some (.bl (bs.all fun b=>b)):=by
 show(z9W (bs.map bD)).map (fun bs=>D.bl (bs.all fun b=>b))=_
 rw[y0q]
 rfl
theorem z5F{T:LB}{a b:Nat}{v:Bool}(ha:a<T.length)(hb:b<T[a].length):st1V (some (z0q T)) (some (.int (a:Int))) (some (.int (b:Int))) (some (.bl v))=some (z0q (T.set a (T[a].set b v))):=by
 show((ixN (T.map z3n).length (a:Int)).bind fun k'=>(match (T.map z3n)[k']? with
  |some (.lst es)=>if z2d es=true then(ixN es.length (b:Int)).map fun j'=>D.lst ((T.map z3n).set k' (.lst (es.set j' (.bl v))))else none
  |_=>none))=_
 rw[y2f (by simpa using ha),aj]
 have e1:(T.map z3n)[a]? = some (.lst (T[a].map bD)):=by rw[aG,am ha];rfl
 rw[e1]
 dsimp only
 rw[if_pos (z2a _),y2f (by simpa using hb),bQ]
 unfold z0q
 rw[dI]
 unfold z3n
 rw[dI]
 rfl
theorem z2r{T:LB}:z1M [z0q T]=some (.int (T.length:Int)):=by
 show some (D.int ((T.map z3n).length:Nat))=_
 rw[ao]
theorem ix_tab{T:LB}{k:Nat}(h:k<T.length):ixD (z0q T) (.int (k:Int))=some (z3n T[k]):=tab_ix h
theorem ix_row{r:List Bool}{k:Nat}(h:k<r.length):ixD (z3n r) (.int (k:Int))=some (.bl r[k]):=row_ix h
theorem ins_at{n b:Nat}(h:b≤n):y5c n (b:Int)=b:=by
 unfold y5c
 rw[if_neg ⋯,dQ,cZ h]
theorem z3I{x:Int}{n:Nat}(h:0<n):∃a:Nat,x % (n:Int)=(a:Int)∧a<n:=by
 have h1:=Int.emod_nonneg x (show(n:Int)≠0 by omega)
 have h2:=Int.emod_lt_of_pos x (show(0:Int)<n by omega)
 exact⟨(x % (n:Int)).toNat,by omega,by omega⟩
theorem y2Y{α:Type}{enc:α->D}{c:DS->Option Bool}{f:DE}{δ:DS}(p:α->Bool)(g:α->D):∀{xs:List α},(∀x∈xs,c (δ++[some (enc x)])=some (p x))->(∀x∈xs,p x=true->f (δ++[some (enc x)])=some (g x))->z1O (z1N c f δ) (xs.map enc)=some ((xs.filter p).map g)
 |[],_,_=>rfl
 |x::r,hc,hf=>by
  have ih:=y2Y (xs:=r) p g (fun y hy=>hc y (ae _ hy)) fun y hy=>hf y (ae _ hy)
  rw[aH]
  unfold z1O
  rw[ih]
  unfold z1N
  rw[hc x ac]
  cases hp:p x with
  |true=>
   show((if true=true then(f (δ++[some (enc x)])).map some else some none).bind _)=_
   rw[if_pos rfl,hf x ac hp,eO hp]
   rfl
  |false=>
   rw[eP (by rw[hp];exact av)]
   rfl
theorem z6s{α:Type}{enc:α->D}{f:DE}{δ:DS}(g:α->D){xs:List α}(hf:∀x∈xs,f (δ++[some (enc x)])=some (g x)):z1O (z1N z5z f δ) (xs.map enc)=some (xs.map g):=by
 rw[y2Y (fun _=>true) g (fun _ _=>rfl) fun x hx _=>hf x hx,ca.mpr fun _ _=>rfl]
def nD(n:Nat):D:=.int (n:Int)
theorem z1W{n:Nat}:z5y 0 n=(ah n).map nD:=by
 unfold z5y nD
 refine dg fun k _=>?_
 rw[bC]
theorem y1I{α:Type}{xs:List α}{k:Nat}(h:k<xs.length):atI xs (k:Int)=some xs[k]:=z2q (am h)
theorem x3U{n k:Nat}(h:k<n):ixN n (k:Int)=some k:=y2f h
def y8D:Option (List D)->Option (List D)
 |some ds=>if ds.length≤sizeLine then some ds else none
 |none=>none
theorem y4w{g:DS->Option (List D)}{δ:DS}:z8E g δ=y8D (g δ):=by
 unfold z8E y8D
 cases g δ <;> rfl
theorem x1T{ds:List D}(h:ds.length≤1000000):y8D (some ds)=some ds:=if_pos (z1A h)
theorem y6z{k:Bool}:y4Z [.bl k]=some (.int (if k=true then 1 else 0)):=(rfl)
theorem z9B:∀o:List Int,z2d (o.map D.int)=true
 |[]=>rfl
 |n::o=>by
  show(true&&z2d (o.map D.int))=true
  rw[z9B o]
  rfl
theorem y3o:∀o:List Int,PyData.canLayAll0 (z8M (o.map D.int))=true
 |[]=>rfl
 |n::o=>by
  show(true&&PyData.canLayAll0 (z8M (o.map D.int)))=true
  rw[y3o o]
  rfl
theorem y4B:∀o:List Int,PyData.depthAll (z8M (o.map D.int))=0
 |[]=>rfl
 |n::o=>by
  show max 0 (PyData.depthAll (z8M (o.map D.int)))=0
  rw[y4B o]
  rfl
theorem z0G{x:Option Out}{b:SS->Option Out}{I:SS->Prop}{Q:Out->Prop}(h:hol x fun o=>∃s,o = .nx s∧I s)(k:∀s,I s->hol (b s) Q):hol (z9N x b) Q:=by
 obtain⟨o,rfl,s,rfl,q⟩:=h
 exact k s q
def rngI(m:Nat):List Int:=(ah m).map fun k=>((k:Nat):Int)
structure Good(m:Nat)(b:Int×List Int):Prop where
 lo:1≤b.1
 hi:b.1≤10 ^ 30
 perm:b.2.Perm (rngI m)
def at2(T:LB)(i j:Nat):Bool:=(T.getD i []).getD j false
def thD(th:List Nat):D:=.lst (th.map nD)
theorem y8d{T:LB}{i:Nat}(h:i<T.length):ixD (z0q T) (.int (i:Int))=some (z3n (T.getD i [])):=by
 rw[ix_tab h]
 simp[cf,am h]
theorem ix_row'{r:List Bool}{j:Nat}(h:j<r.length):ixD (z3n r) (.int (j:Int))=some (.bl (r.getD j false)):=by
 rw[ix_row h]
 simp[cf,am h]
theorem Sq.len{n:Nat}{T:LB}(h:Sq n T){i:Nat}(hi:i<n):(T.getD i []).length=n:=by
 have h1:i<T.length:=by rw[h.1];exact hi
 have:T.getD i []=T[i]:=by simp[cf,am h1]
 rw[this]
 exact h.row h1
theorem ix2{n:Nat}{T:LB}(h:Sq n T){i j:Nat}(hi:i<n)(hj:j<n):o2 ixD (ixD (z0q T) (.int (i:Int))) (some (.int (j:Int)))=some (.bl (at2 T i j)):=by
 rw[y8d (by rw[h.1];exact hi),eo_2,ix_row' (by rw[h.len hi];exact hj)]
 rfl
theorem seq_tab{T:LB}:y4R (z0q T)=some (T.map z3n):=(rfl)
theorem z1D{th:List Nat}:y4R (thD th)=some (th.map nD):=(rfl)
theorem z2I{th:List Nat}:z1M [thD th]=some (.int (th.length:Int)):=by
 show some (D.int ((th.map nD).length:Nat))=_
 rw[ao]
theorem y0P:∀th:List Nat,z2d (th.map nD)=true
 |[]=>rfl
 |n::th=>by
  show(true&&z2d (th.map nD))=true
  rw[y0P th]
  rfl
theorem x3c(th:List Nat):okP (thD th)=true:=by
 have e:th.map nD=(th.map fun n=>((n:Nat):Int)).map D.int:=by rw[bp];rfl
 unfold okP thD
 rw[e,aJ,decide_eq_true_eq]
 refine⟨y3o _,?_⟩
 show PyData.depthAll (z8M ((th.map fun n=>((n:Nat):Int)).map D.int))+1≤60
 rw[y4B]
 decide
theorem y2y{d:D}(h:okP d=true):neD d d=some (.bl false):=by
 unfold neD
 rw[h]
 show(if(true&&true)=true then some (D.bl (!PyData.eqv (toP d) (toP d)))else none)=_
 rw[if_pos (show(true&&true)=true from rfl),SeqAt.eqv_refl _ (z0C h).1]
 rfl
theorem y9v{th:List Nat}{k:Nat}(hl:th.length≤1000000):m0V y2q (some (thD th)) (some [.int (k:Int)])=some (thD (th++[k])):=by
 show Option.map _ (if(th.map nD).length<sizeLine then some (th.map nD++[.int (k:Int)])else none)=_
 rw[ao,if_pos (by rw[PySem.sizeLine_eq];omega)]
 unfold thD
 rw[aR]
 rfl
theorem y6J{o:List Nat}{b v:Nat}(hb:b≤o.length)(hl:o.length≤1000000):m0V insF (some (thD o)) (some [.int (b:Int),.int (v:Int)])=some (thD (o.take b++v::o.drop b)):=by
 show Option.map _ (if(o.map nD).length<sizeLine∧-(2 ^ 63)≤(b:Int)∧(b:Int)<2 ^ 63 then _ else none)=_
 rw[ao,if_pos ⟨by rw[PySem.sizeLine_eq];omega,by omega,by omega⟩,ins_at hb]
 unfold thD
 rw[aR,aH,cE,cP]
 rfl
theorem y4b{fi:DS->Option (List D)}{c:DS->Option Bool}{f:DE}{δ:DS}:z6E fi c f δ=z1C (fi δ) (two (z4v c f δ)):=by
 unfold z6E z1C
 cases fi δ <;> rfl
theorem x0b{f:DE}{δ:DS}:y2W f δ=(f δ).bind y2R:=(rfl)
def z4U(k:Nat):List Bool->List Nat
 |[]=>[]
 |b::r=>if b=true then k::z4U (k+1) r else z4U (k+1) r
theorem y9k:∀{r:List Bool} {k:Nat},z4U k r=(dc k r.length).filter fun i=>r.getD (i - k) false
 |[],_=>rfl
 |b::r,k=>by
  have ih:=y9k (r:=r) (k:=k+1)
  unfold z4U
  rw[bc,List.range'_succ]
  have e:(dc (k+1) r.length).filter (fun i=>(b::r).getD (i - k) false)=(dc (k+1) r.length).filter fun i=>r.getD (i - (k+1)) false:=by
   apply cN
   intro i hi
   have:=(List.mem_range'_1.mp hi).1
   have e:i - k=(i - (k+1))+1:=by omega
   rw[e]
   rfl
  cases b with
  |true=>
   rw[eO (by simp),e,ih]
   rfl
  |false=>
   rw[eP (by simp),e,ih]
   rfl
theorem z7K:∀{ds:List D} {k:Nat},(z0B k ds).length=ds.length
 |[],_=>rfl
 |d::r,k=>by show(z0B (k+1) r).length+1=r.length+1;rw[z7K]
def chO(F G:D->D->Option D)(x y z:Option D):Option D:=match x,y with
 |some x,some y=>match F x y with
  |some (.bl true)=>z.bind fun z=>G y z
  |some (.bl false)=>some (.bl false)
  |_=>none
 |_,_=>none
theorem y4j{F G:D->D->Option D}{f g h:DE}{δ:DS}:z8J F G f g h δ=chO F G (f δ) (g δ) (h δ):=by
 unfold z8J chO
 cases f δ <;> cases g δ <;> rfl
theorem y3B{F G:D->D->Option D}{x y z:D}{b c:Bool}(h1:F x y=some (.bl b))(h2:G y z=some (.bl c)):chO F G (some x) (some y) (some z)=some (.bl (b&&c)):=by
 show(match F x y with
  |some (.bl true)=>(some z).bind fun z=>G y z
  |some (.bl false)=>some (.bl false)
  |_=>none)=_
 rw[h1]
 cases b with
 |true=>exact h2
 |false=>rfl
def inO:Option D->Option D->Option Bool
 |some x,some y=>inK x y
 |_,_=>none
theorem y6D{f g:DE}{δ:DS}:x0q f g δ=inO (f δ) (g δ):=by
 unfold x0q inO
 cases f δ <;> cases g δ <;> rfl
theorem eo_in{x y:D}:inO (some x) (some y)=inK x y:=(rfl)
theorem y9z{f g:DE}{δ:DS}:x1u f g δ=(x0q f g δ).map (!·):=(rfl)
def y9m(o k v:Option D):Option D:=match o,k,v with
 |some (.dct ks ds),some dk,some d=>(y2B dk).bind fun k=>if z2d ds=true∧ks.length<sizeLine then some (.dct (y1C ks k) (y1w ks ds k d))else none
 |_,_,_=>none
theorem kj{i:Nat}{s:SS}{dk d:D}{ks:List Key}{ds:List D}:(match y2B dk,(some (some (SD.ow (.dct ks ds))):Option (Option SD))with
   |some k,some (some (.ow (.dct ks ds)))=>if z2d ds=true∧ks.length<sizeLine then some (Out.nx ((z0M i s).set i (some (.ow (.dct (y1C ks k) (y1w ks ds k d))))))else none
   |_,_=>none)=z8t i (y9m (some (.dct ks ds)) (some dk) (some d)) s:=by
 show _=z8t i ((y2B dk).bind _) s
 cases y2B dk with
 |none=>rfl
 |some k=>
  show(if z2d ds=true∧ks.length<sizeLine then _ else _)=z8t i (if z2d ds=true∧ks.length<sizeLine then _ else _) s
  split <;> rfl
theorem y7a{i:Nat}{fk fv:DE}{s:SS}:dput i fk fv s=z8t i (y9m (owA i s) (fk (z0w s)) (x0p (fv (z0w s)))) s:=by
 unfold dput owA
 rcases fv (z0w s)with _ | d
 ·rcases fk (z0w s)with _ | dk <;> rcases s[i]? with _ | _ | ⟨x | x | ⟨r,x⟩⟩ <;> (first | rfl | (cases x <;> rfl))
 ·show(if d.imm=true then _ else _)=z8t i (y9m _ _ (if d.imm=true then some d else none)) s
  split
  ·rcases fk (z0w s)with _ | dk
   ·rcases s[i]? with _ | _ | ⟨x | x | ⟨r,x⟩⟩ <;> (first | rfl | (cases x <;> rfl))
   ·rw[aj]
    rcases s[i]? with _ | _ | ⟨x | x | ⟨r,x⟩⟩
    ·cases y2B dk <;> rfl
    ·cases y2B dk <;> rfl
    ·cases y2B dk <;> rfl
    ·cases x with
     |dct ks ds=>exact kj
     |_=>(cases y2B dk <;> rfl)
    ·cases y2B dk <;> rfl
  ·rcases fk (z0w s)with _ | dk <;> rcases s[i]? with _ | _ | ⟨x | x | ⟨r,x⟩⟩ <;> (first | rfl | (cases x <;> rfl))
def catO:Option D->Option D->Option (List D)
 |some x,some y=>catLs x y
 |_,_=>none
theorem x2P{f g:DE}{δ:DS}:y3P f g δ=catO (f δ) (g δ):=by
 unfold y3P catO
 cases f δ <;> cases g δ <;> rfl
theorem y7o{ds es:List D}(h:ds.length+es.length≤1000000):catO (some (.lst ds)) (some (.lst es))=some (ds++es):=if_pos (z1A h)
theorem y8T{d:D}{r:SS}:x0H 0 (some (.ow d)::r)=some (.sh d)::r:=(rfl)
theorem y8v{i:Nat}{x:Option SD}{r:SS}:x0H (i+1) (x::r)=x::x0H i r:=by
 unfold x0H
 rw[eN]
 rcases r[i]? with _ | _ | ⟨y | y | ⟨q,y⟩⟩ <;> rfl
def z7m(p:List Int):D:=.dct (p.map Sum.inl) (p.map fun _=>.bl true)
theorem y8k{p:List Int}{x:Int}(h:x∉p):inK (.int x) (z7m p)=some false:=by
 show some (y1x (p.map Sum.inl) (.inl x))=_
 congr 1
 unfold y1x
 rw[cU,cO]
 intro y hy z
 have:(Sum.inl y:Key)=Sum.inl x:=of_decide_eq_true z
 cases this
 exact h hy
theorem y0V:∀p:List Int,z2d (p.map fun _=>D.bl true)=true
 |[]=>rfl
 |_::p=>by
  show(true&&z2d (p.map fun _=>D.bl true))=true
  rw[y0V p]
  rfl
theorem y4G{p:List Int}{x:Int}(h:x∉p)(hl:p.length≤1000000):y9m (some (z7m p)) (some (.int x)) (some (.bl true))=some (z7m (p++[x])):=by
 show(if z2d (p.map fun _=>D.bl true)=true∧(p.map (Sum.inl:Int->Key)).length<sizeLine then _ else _)=_
 rw[if_pos ⟨y0V p,by rw[ao,PySem.sizeLine_eq];omega⟩]
 have hh:y1x (p.map Sum.inl) (.inl x)=false:=by
  have:=y8k h
  exact Option.some.inj this
 unfold y1C y1w z7m
 rw[hh,if_neg av,if_neg av,aR,aR]
 rfl
end L2
namespace Prg
open PySem L2
def extV(o x:Option D):Option D:=match x,o with
 |some (.lst es),some (.lst ds)=>if ds.length+es.length≤sizeLine then some (.lst (ds++es))else none
 |_,_=>none
theorem y4K{i:Nat}{f:DE}{s:SS}:y7b i f s=z8t i (extV (owA i s) (f (z0w s))) s:=by
 unfold y7b owA
 rcases f (z0w s)with _ | d
 ·rcases s[i]? with _ | _ | ⟨x | x | ⟨r,x⟩⟩ <;> (first | rfl | (cases x <;> rfl))
 ·rcases s[i]? with _ | _ | ⟨x | x | ⟨r,x⟩⟩ <;> cases d <;> (first | rfl | (cases x <;> first | rfl | skip))
  rename_i es ds
  show(if ds.length+es.length≤sizeLine then some _ else none)=z8t i (if ds.length+es.length≤sizeLine then some _ else none) s
  split <;> rfl
theorem eo_ext{ds es:List D}(h:ds.length+es.length≤1000000):extV (some (.lst ds)) (some (.lst es))=some (.lst (ds++es)):=if_pos (z1A h)
theorem y9o{f:DE}{δ:DS}:y7R f δ=(f δ).map fun d=>!isN d:=(rfl)
theorem y2H{ds:List D}:revF [.lst ds]=some ds.reverse:=(rfl)
theorem y0h:∀ns:List Int,z2O (ns.map .int)=some ns
 |[]=>rfl
 |n::ns=>by
  rw[aH]
  unfold z2O
  rw[y0h ns]
  rfl
theorem x2t{ns:List Int}(h:ns.length<64):y5E [.lst (ns.map .int)]=some ((y0p ns).map .int):=by
 show((z2O (ns.map .int)).bind fun ns=>if ns.length<64 then some ((y0p ns).map D.int)else none)=_
 rw[y0h,aj,if_pos h]
def sm(f:Nat->Nat):Nat->Nat
 |0=>0
 |n+1=>sm f n+f n
end Prg
namespace L2
open PySem
theorem z5H{α:Type}{enc:α->D}{c:DS->Option Bool}{f:DE}{δ:DS}(p:α->Bool)(g:α->D){xs:List α}(hl:xs.length≤1000)(hc:∀x∈xs,c (δ++[some (enc x)])=some (p x))(hf:∀x∈xs,p x=true->f (δ++[some (enc x)])=some (g x)):z1C (some (xs.map enc)) (z1N c f δ)=some ((xs.filter p).map g):=by
 rw[z5i (by rw[ao];omega)]
 exact y2Y p g hc hf
theorem z7w{α:Type}{enc:α->D}{f:DE}{δ:DS}(g:α->D){xs:List α}(hl:xs.length≤1000)(hf:∀x∈xs,f (δ++[some (enc x)])=some (g x)):z1C (some (xs.map enc)) (z1N z5z f δ)=some (xs.map g):=by
 rw[z5i (by rw[ao];omega)]
 exact z6s g hf
theorem x1f{p:Nat->Bool}{k:Nat}:(ah (k+1)).filter p=(ah k).filter p++if p k=true then [k] else []:=by rw[cX,bS,bO,List.filter_nil]
theorem z0K{m:Nat}(h:m≤1000000):rng1 (some (.int (m:Int)))=some (z5y 0 m):=by rw[eo_rng1 ⋯];rfl
theorem y6w{a:Nat}{th:List Nat}:x0w (.int (a:Int)) (thD th)=some (th.contains a):=by
 unfold thD x0w
 show(if(okP (.int (a:Int))&&okP (.lst (th.map nD)))=true then _ else none)=_
 rw[show okP (.lst (th.map nD))=true from x3c th,show okP (.int (a:Int))=true from rfl]
 show some ((th.map nD).any fun y=>PyData.eqv (toP y) (toP (.int (a:Int))))=_
 congr 1
 rw[cU,cQ]
 congr 1
 funext x
 show decide ((x:Int)=(a:Int))=(a==x)
 by_cases h:x=a
 ·subst h;simp
 ·have:¬ a=x:=fun e=>h e.symm
  have h2:¬ (x:Int)=(a:Int):=by omega
  simp[this,h2]
theorem x3T{a:Nat}{th:List Nat}:inD (.int (a:Int)) (thD th)=some (.bl (th.contains a)):=by
 unfold inD
 rw[y6w]
 rfl
theorem z5u{a:Nat}{th:List Nat}:y6g (.int (a:Int)) (thD th)=some (.bl (!th.contains a)):=by
 unfold y6g
 rw[y6w]
 rfl
theorem ix0{c:Nat}{r:List Nat}:ixD (thD (c::r)) (.int 0)=some (.int (c:Int)):=y1I (k:=0) (xs:=(c::r).map nD) (by simp)
theorem tru_th{th:List Nat}:z5S (thD th)=some (!th.isEmpty):=by cases th <;> rfl
theorem y3O{α:Type}{enc:α->D}{c:DS->Option Bool}{f:DE}{δ:DS}(p:Nat->α->Bool)(g:Nat->α->D):∀{xs:List α} {k:Nat},(∀i (h:i<xs.length),c (δ++[some (.int ((k+i:Nat):Int)),some (enc xs[i])])=some (p (k+i) xs[i]))->(∀i (h:i<xs.length),p (k+i) xs[i]=true->f (δ++[some (.int ((k+i:Nat):Int)),some (enc xs[i])])=some (g (k+i) xs[i])) →
  z1O (two (z4v c f δ)) (z0B k (xs.map enc))=some (((xs.zipIdx k).filter fun z=>p z.2 z.1).map fun z=>g z.2 z.1)
 |[],_,_,_=>rfl
 |x::r,k,hc,hf=>by
  have ih:=y3O (xs:=r) (k:=k+1) p g (fun i h=>by
   have:=hc (i+1) (by simpa using h)
   have e:k+1+i=k+(i+1):=by omega
   rw[e]
   simpa using this) fun i h hp=>by
   have e:k+1+i=k+(i+1):=by omega
   rw[e]at hp ⊢
   have:=hf (i+1) (by simpa using h) (by simpa using hp)
   simpa using this
  show z1O _ (.tup [.int (k:Nat),enc x]::z0B (k+1) (r.map enc))=_
  unfold z1O
  rw[ih]
  have h0:=hc 0 (by simp)
  have h1:=hf 0 (by simp)
  simp only[Nat.add_zero,List.getElem_cons_zero]at h0 h1
  have e:two (z4v c f δ) (.tup [.int (k:Nat),enc x])=some (if p k x=true then some (g k x)else none):=by
   show z4v c f δ (.int (k:Nat)) (enc x)=_
   unfold z4v
   rw[h0]
   cases hp:p k x with
   |true=>
    have:=h1 hp
    show(if true=true then(f (δ++[some (.int (k:Nat)),some (enc x)])).map some else some none)=_
    rw[if_pos rfl,this]
    rfl
   |false=>rfl
  rw[e,List.zipIdx_cons,bO]
  show some (x0s _ _)=_
  cases hp:p k x with
  |true=>rfl
  |false=>rfl
theorem x3C{α:Type}{enc:α->D}{c:DS->Option Bool}{f:DE}{δ:DS}(p:Nat->α->Bool)(g:Nat->α->D){xs:List α}(hl:xs.length≤1000)(hc:∀i (h:i<xs.length),c (δ++[some (.int (i:Int)),some (enc xs[i])])=some (p i xs[i]))(hf:∀i (h:i<xs.length),p i xs[i]=true->f (δ++[some (.int (i:Int)),some (enc xs[i])])=some (g i xs[i])):
  z1C (some (z0B 0 (xs.map enc))) (two (z4v c f δ))=some ((xs.zipIdx.filter fun z=>p z.2 z.1).map fun z=>g z.2 z.1):=by
 rw[z5i (by rw[z7K,ao];omega)]
 refine y3O p g (fun i h=>?_) fun i h hp=>?_
 ·rw[Nat.zero_add];exact hc i h
 ·rw[Nat.zero_add]at hp ⊢;exact hf i h hp
theorem cx2_all{α:Type}{enc:α->D}{f:DE}{δ:DS}(g:Nat->α->D){xs:List α}(hl:xs.length≤1000)(hf:∀i (h:i<xs.length),f (δ++[some (.int (i:Int)),some (enc xs[i])])=some (g i xs[i])):
  z1C (some (z0B 0 (xs.map enc))) (two (z4v z5z f δ))=some (xs.zipIdx.map fun z=>g z.2 z.1):=by
 rw[x3C (fun _ _=>true) g hl (fun _ _=>rfl) fun i h _=>hf i h,ca.mpr fun _ _=>rfl]
theorem y6H{th:List Nat}:y2R (thD th)=some (z0B 0 (th.map nD)):=(rfl)
theorem z9m{o:List Nat}{k:Nat}:y3b (some (thD o)) (some (some ((k:Int)+1))) (some none)=some ((o.drop (k+1)).map nD):=by
 show some (z6G (o.map nD) (some ((k:Int)+1)) none)=_
 unfold z6G
 have e1:HT.sIx (o.map nD).length (o.map nD).length none=(o.map nD).length:=rfl
 have e2:HT.sIx (o.map nD).length 0 (some ((k:Int)+1))=min (k+1) (o.map nD).length:=by
  show(if((k:Int)+1)<0 then(((k:Int)+1)+((o.map nD).length:Int)).toNat else min ((k:Int)+1).toNat (o.map nD).length)=_
  rw[if_neg ⋯]
  congr 1
 rw[e1,e2,cP]
 congr 1
 by_cases h:k+1≤(o.map nD).length
 ·rw[cZ h,aS (by simp)]
 ·rw[dU ⋯,bi (as:=o.map nD) (ar _),eF,bi ⋯]
theorem z7x{a b:List Nat}(h:a.length+b.length≤1000000):catO (some (thD a)) (some (thD b))=some ((a++b).map nD):=by
 show catO (some (.lst (a.map nD))) (some (.lst (b.map nD)))=_
 rw[y7o (by rw[ao,ao];exact h),aR]
theorem y2b(o:List Nat):D.lst (o.map nD)=thD o:=(rfl)
theorem th_one{j:Nat}:D.lst [.int (j:Int)]=thD [j]:=(rfl)
theorem z1U(o:List Nat):z4j (some (o.map nD))=some (o.map nD):=z4u (y0P o)
theorem z3E:z4j (some [])=some []:=(rfl)
theorem y3C:D.lst []=thD []:=(rfl)
theorem z7b{α:Type}{enc:α->D}{i:Nat}{b:SS->Option Out}(I:SS->Prop)(p:α->Bool)(d:D):∀{xs:List α} {s:SS},I s->(∀x∈xs,∀δ,I δ->hol (b (δ.set i (some (.sh (enc x))))) fun o=>if p x=true then(∃δ',o = .nx δ'∧I δ')else o = .rt d) →
  hol (z8i i b (xs.map enc) s) fun o=>if xs.all p=true then(∃δ',o = .nx δ'∧I δ')else o = .rt d
 |[],s,h0,_=>⟨_,rfl,(if_pos rfl).mpr ⟨s,rfl,h0⟩⟩
 |x::r,s,h0,hs=>by
  obtain⟨o,e,q⟩:=hs x ac s h0
  rw[aH]
  unfold z8i
  rw[e,dv]
  cases hp:p x with
  |true=>
   rw[hp,if_pos rfl]at q
   obtain⟨s1,rfl,h1⟩:=q
   rw[cS]
   exact z7b I p d h1 fun y hy=>hs y (ae _ hy)
  |false=>
   rw[hp,if_neg av]at q
   subst q
   rw[cJ]
   exact⟨_,rfl,(if_neg av).mpr rfl⟩
theorem y0W{x:Option Out}{b:SS->Option Out}{I:SS->Prop}{Q:Out->Prop}{c:Bool}{d:D}(h:hol x fun o=>if c=true then(∃s,o = .nx s∧I s)else o = .rt d)(k:c=true->∀s,I s->hol (b s) Q)(kr:c=false->Q (.rt d)):hol (z9N x b) Q:=by
 obtain⟨o,rfl,q⟩:=h
 cases hc:c with
 |true=>
  rw[hc,if_pos rfl]at q
  obtain⟨s,rfl,q⟩:=q
  exact k hc s q
 |false=>
  rw[hc,if_neg av]at q
  subst q
  exact⟨_,rfl,kr hc⟩
def movX(x:Option D)(i j:Nat)(s:SS):Option Out:=match x with
 |some d=>some (.nx (((z0M j s).set j none).set i (some (.ow d))))
 |none=>none
theorem x3F{i j:Nat}{s:SS}:movO i j s=movX (owA j s) i j s:=by
 unfold movO owA movX
 generalize s[j]? = z
 rcases z with _ | _ | x
 ·rfl
 ·rfl
 ·cases x <;> rfl
theorem x3D{d:D}{i j:Nat}{s:SS}:movX (some d) i j s=some (.nx (((z0M j s).set j none).set i (some (.ow d)))):=(rfl)
theorem z5M{c:DS->Option Bool}{b:SS->Option Out}{QO:Out->Prop}(I:Nat->SS->Prop):∀{n:Nat} {s:SS},I n s->(∀n δ,I n δ->∃k,c (z0w δ)=some k∧(k=false->QO (.nx δ))∧(k=true->∃n',n=n'+1∧hol (b δ) fun o=>match o with | .nx δ'=>I n' δ' | .ct δ'=>I n' δ' | .bk δ'=>QO (.nx δ') | .rt d=>QO (.rt d) | .rb d δ'=>QO (.rb d δ') | .ex e δ'=>QO (.ex e δ')))->∀{f:Nat},n<f->hol (z4S c b f s) QO
 |n,s,h0,hs,0,hf=>absurd hf ⋯
 |n,s,h0,hs,f+1,hf=>by
  obtain⟨k,ec,h1,h2⟩:=hs n s h0
  unfold z4S
  rw[ec]
  cases k with
  |false=>exact⟨_,rfl,h1 rfl⟩
  |true=>
   obtain⟨n',rfl,o,eb,q⟩:=h2 rfl
   show hol ((b s).bind _) QO
   rw[eb]
   cases o with
   |nx s1=>exact z5M I q hs ⋯
   |ct s1=>exact z5M I q hs ⋯
   |bk s1=>exact⟨_,rfl,q⟩
   |rt d=>exact⟨_,rfl,q⟩
   |rb d s1=>exact⟨_,rfl,q⟩
   |ex e s1=>exact⟨_,rfl,q⟩
theorem tru_nil:z5S (thD [])=some false:=(rfl)
theorem y8H{f:DE}{δ:DS}:y9e f δ=(f δ).bind revS:=(rfl)
theorem y6X{th:List Nat}:revS (thD th)=some (th.reverse.map nD):=by
 show some (th.map nD).reverse=_
 rw[List.map_reverse]
theorem x1b{th:List Nat}(h:th≠[]):ixD (thD th) (.int (-1))=some (.int ((th.getLast h:Nat):Int)):=by
 have hl:0<th.length:=b9.mpr h
 show atI (th.map nD) (-1)=_
 unfold atI
 have e:ixN (th.map nD).length (-1)=some (th.length - 1):=by
  rw[ao]
  unfold ixN
  simp
  omega
 rw[e,List.getLast_eq_getElem]
 show(th.map nD)[th.length - 1]? = _
 rw[am (by simp;omega),bN]
 rfl
theorem x0E{o:List Nat}:y3b (some (thD o)) (some (some 1)) (some none)=some ((o.drop 1).map nD):=z9m (k:=0)
theorem y1N{o:List Nat}{k:Nat}:y3b (some (thD o)) (some (some (k:Int))) (some none)=some ((o.drop k).map nD):=by
 show some (z6G (o.map nD) (some (k:Int)) none)=_
 unfold z6G
 have e1:HT.sIx (o.map nD).length (o.map nD).length none=(o.map nD).length:=rfl
 have e2:HT.sIx (o.map nD).length 0 (some (k:Int))=min k (o.map nD).length:=by
  show(if(k:Int)<0 then((k:Int)+((o.map nD).length:Int)).toNat else min (k:Int).toNat (o.map nD).length)=_
  rw[if_neg ⋯]
  congr 1
 rw[e1,e2,cP]
 congr 1
 by_cases h:k≤(o.map nD).length
 ·rw[cZ h,aS (by simp)]
 ·rw[dU ⋯,bi (as:=o.map nD) (ar _),eF,bi ⋯]
theorem z4p{np nl:Nat}{b:SS->Option Out}{ds:List D}{d:D}(hl:ds.length=np)(h:hol (b (ds.map (fun d=>some (.sh d))++ad nl none)) fun o=>o = .rt d):z9M np nl b ds=some (.val d):=by
 unfold z9M
 rw[if_pos hl,hol_is.mp h]
theorem runX_nx{np nl:Nat}{b:SS->Option Out}{ds:List D}(hl:ds.length=np)(h:hol (b (ds.map (fun d=>some (.sh d))++ad nl none)) fun o=>∃s,o = .nx s):z9M np nl b ds=some (.val .non):=by
 obtain⟨_,e,s,rfl⟩:=h
 unfold z9M
 rw[if_pos hl,e]
theorem z8f{np nl:Nat}{b:SS->Option Out}{ds:List D}{c:Nat}(hl:ds.length=np)(h:hol (b (ds.map (fun d=>some (.sh d))++ad nl none)) fun o=>∃s,o = .ex c s):z9M np nl b ds=some (.exc c):=by
 obtain⟨_,e,s,rfl⟩:=h
 unfold z9M
 rw[if_pos hl,e]
def rsX(c:Nat)(x:Option D)(s:SS):Option Out:=match x with
 |some _=>some (.ex c s)
 |none=>none
theorem y4A{c:Nat}{f:DE}{s:SS}:z6N c f s=rsX c (f (z0w s)) s:=by
 unfold z6N rsX
 generalize f (z0w s)=x
 cases x <;> rfl
theorem y3x{c:Nat}{d:D}{s:SS}:rsX c (some d) s=some (.ex c s):=(rfl)
theorem y4p{m:List D->Option XO}{fl:List DE}{δ:DS}:z1y m fl δ=(z0j fl δ).bind m:=(rfl)
theorem y4L{m:List D->Option XO}{fl:List DE}{δ:DS}:z2l m fl δ=valO ((z0j fl δ).bind m):=(rfl)
def repO(x y:Option D):Option (List D):=x.bind fun a=>y.bind fun b=>repLs a b
theorem x3k{f g:DE}{δ:DS}:x1s f g δ=repO (f δ) (g δ):=(rfl)
theorem y2t{d:D}{n:Nat}(h:n≤1000000):repO (some (.lst [d])) (some (.int (n:Int)))=some (ad n d):=by
 have e:∀k:Nat,(ad k [d]).flatten=ad k d:=fun k=>by
  induction k with
  |zero=>rfl
  |succ k ih=>rw[bj,bz,ih,bj];rfl
 show(if(0≤(n:Int)∧(n:Int)≤1000000)∧[d].length*(n:Int).toNat≤sizeLine then some (ad (n:Int).toNat [d]).flatten else none)=_
 rw[if_pos ⟨⟨by omega,by omega⟩,z1A (by simp;exact h)⟩,dQ,e]
theorem y3J{f g:DE}{δ:DS}:y9p f g δ=o2 mkD1 (f δ) (g δ):=ev_d2
theorem y9x{f g h:DE}{δ:DS}:x2k f g h δ=rngN (f δ) (g δ) (h δ):=(rfl)
theorem y9j{a b:Int}:mkD1 (.int a) (.int b)=some (.dct [.inl a] [.int b]):=(rfl)
theorem y6i{ds:List D}{i:Int}:ixL (.lst ds) (.int i)=atI ds i:=(rfl)
def forX2(i j:Nat)(xs:Option (List D))(b:SS->Option Out)(s:SS):Option Out:=xs.bind fun ds=>z5m i j b ds s
theorem y4r{i j:Nat}{f:DS->Option (List D)}{g:SS->Option Out}{s:SS}:y6s i j f g s=forX2 i j (f (shV s)) g s:=(rfl)
theorem y7F{i j:Nat}{ds:List D}{b:SS->Option Out}{s:SS}:forX2 i j (some ds) b s=z5m i j b ds s:=(rfl)
theorem z9J{α:Type}{enc:α->D}{i j:Nat}{b:SS->Option Out}{QO:Out->Prop}{xs:List α}(I:List α->SS->Prop)(hs:∀pre x post,xs=pre++x::post->∀δ,I pre δ->hol (b ((δ.set i (some (.sh (.int ((pre.length:Nat):Int))))).set j (some (.sh (enc x))))) fun o=>match o with | .nx δ'=>I (pre++[x]) δ' | .ct δ'=>I (pre++[x]) δ' | .bk δ'=>QO (.nx δ') | .rt d=>QO (.rt d) | .rb d δ'=>QO (.rb d δ') | .ex c δ'=>QO (.ex c δ'))(he:∀δ,I xs δ->QO (.nx δ)):
  ∀{post pre:List α} {s:SS},xs=pre++post->I pre s->hol (z5m i j b (z0B pre.length (post.map enc)) s) QO
 |[],pre,s,e,h=>⟨_,rfl,he s (by rw[e,aF];exact h)⟩
 |x::post,pre,s,e,h=>by
  obtain⟨o,eo,q⟩:=hs pre x post e s h
  have e2:z0B pre.length ((x::post).map enc) = .tup [.int ((pre.length:Nat):Int),enc x]::z0B (pre++[x]).length (post.map enc):=by
   rw[aH,aB]
   rfl
  rw[e2]
  unfold z5m
  show hol ((b ((s.set i (some (.sh (.int ((pre.length:Nat):Int))))).set j (some (.sh (enc x))))).bind _) QO
  rw[eo]
  have e3:xs=(pre++[x])++post:=by rw[e];simp
  cases o with
  |nx s1=>exact z9J I hs he e3 q
  |ct s1=>exact z9J I hs he e3 q
  |bk s1=>exact⟨_,rfl,q⟩
  |rt d=>exact⟨_,rfl,q⟩
  |rb d s1=>exact⟨_,rfl,q⟩
  |ex c s1=>exact⟨_,rfl,q⟩
theorem y5G{a:Nat}{r:List Nat}(h:(a::r).Pairwise (· < ·)):x0j [thD (a::r)]=some (.int (a:Int)):=by
 have hp:=aM.mp h
 have hb:∀k,k≤r.length->bst ((a::r).map fun n=>((n:Nat):Int)) k=0:=fun k=>by
  induction k with
  |zero=>exact fun _=>rfl
  |succ k ih=>
   intro hk
   unfold bst
   rw[ih ⋯]
   refine if_neg ?_
   rw[decide_eq_true_iff,aH]
   show ¬ ((r.map fun n=>((n:Nat):Int)).getD k 0<(a:Int))
   rw[bE,aG,am ⋯]
   show ¬ (((r[k]'⋯:Nat):Int)<(a:Int))
   have:=hp.1 _ (bM (show k<r.length by omega))
   omega
 have e:(a::r).map nD=((a::r).map fun n=>((n:Nat):Int)).map D.int:=by rw[bp];rfl
 show((z2O ((a::r).map nD)).bind fun ns=>if ns.isEmpty=true then none else some (D.int (mnI ns)))=_
 have ii:∀ns:List Int,z2O (ns.map D.int)=some ns:=fun ns=>by
  induction ns with
  |nil=>rfl
  |cons n ns ih=>show(z2O (ns.map D.int)).map (fun r=>n::r)=_;rw[ih];rfl
 rw[e,ii,aj,if_neg (by simp)]
 unfold mnI
 rw[ao,bc,Nat.add_sub_cancel,hb _ (ar _)]
 rfl
theorem x2E{d:D}:valO (some (.val d))=some d:=(rfl)
def xeO(x:Option XO)(s:SS):Option Out:=match x with
 |some (.val _)=>some (.nx s)
 |some (.exc c)=>some (.ex c s)
 |none=>none
theorem y4l{F:DS->Option XO}{s:SS}:y0s F s=xeO (F (z0w s)) s:=by
 unfold y0s xeO
 generalize F (z0w s)=x
 rcases x with _ | _ | _ <;> rfl
theorem x3s{d:D}{s:SS}:xeO (some (.val d)) s=some (.nx s):=(rfl)
theorem x2G{c:Nat}{s:SS}:xeO (some (.exc c)) s=some (.ex c s):=(rfl)
theorem x2Y{c:Nat}{s:SS}{b:SS->Option Out}:z9N (some (.ex c s)) b=some (.ex c s):=(rfl)
def tryX(x:Option Out)(gh:Nat->SS->Option Out):Option Out:=match x with
 |some (.ex c s)=>gh c s
 |o=>o
theorem x2W{gb:SS->Option Out}{gh:Nat->SS->Option Out}{s:SS}:tryO gb gh s=tryX (gb s) gh:=by
 unfold tryO tryX
 generalize gb s=x
 rcases x with _ | x
 ·rfl
 ·cases x <;> rfl
theorem x3p{c:Nat}{s:SS}{gh:Nat->SS->Option Out}:tryX (some (.ex c s)) gh=gh c s:=(rfl)
def unX(i:Nat)(x:Option Out):Option Out:=match x with
 |some o=>unO i o
 |none=>none
theorem x3Q{i:Nat}{x:Str}{g:SS->Option Out}{s:SS}:x0f i x g s=unX i (g (s.set i (some (.sh (.exc x))))):=by
 unfold x0f unX
 generalize g (s.set i (some (.sh (.exc x))))=z
 cases z <;> rfl
theorem x3V{i:Nat}{d:D}:unX i (some (.rt d))=some (.rt d):=(rfl)
theorem y7w{d:D}{r:SS}:y7z (some (.ow d)::r) 0=some d:=(rfl)
theorem y8u{x:Option SD}{r:SS}{i:Nat}:y7z (x::r) (i+1)=y7z r i:=by
 unfold y7z
 rw[eN]
theorem y4X{x:Option Out}{b:SS->Option Out}{I:SS->Prop}{d:D}(h:hol x fun o=>(∃s,o = .nx s∧I s)∨o = .rt d)(k:∀s,I s->hol (b s) fun o=>o = .rt d):hol (z9N x b) fun o=>o = .rt d:=by
 obtain⟨o,rfl,q⟩:=h
 rcases q with⟨s,rfl,q⟩ | rfl
 ·exact k s q
 ·exact⟨_,rfl,rfl⟩
def okN(n:Nat)(d:D):Prop:=(toP d).canLay0=true∧(toP d).depth≤n
def oksN(n:Nat)(ds:List D):Prop:=PyData.canLayAll0 (z8M ds)=true∧PyData.depthAll (z8M ds)≤n
theorem y8E{n:Nat}:∀{ds:List D},(∀d∈ds,okN n d)->oksN n ds
 |[],_=>⟨rfl,bn n⟩
 |d::ds,h=>by
  have h1:=h d ac
  have h2:=y8E fun x hx=>h x (ae _ hx)
  constructor
  ·show(PyData.canLay0 (toP d)&&PyData.canLayAll0 (z8M ds))=true
   rw[h1.1,h2.1]
   rfl
  ·show max (PyData.depth (toP d)) (PyData.depthAll (z8M ds))≤n
   have:=h1.2
   have:=h2.2
   omega
theorem y9u{n:Nat}{ds:List D}(h:∀d∈ds,okN n d):okN (n+1) (.lst ds):=by
 have:=y8E h
 exact⟨this.1,Nat.succ_le_succ this.2⟩
theorem y8N{α:Type}{n:Nat}{f:α->D}{xs:List α}(h:∀x∈xs,okN n (f x)):okN (n+1) (.lst (xs.map f)):=y9u fun d hd=>by
 obtain⟨x,hx,rfl⟩:=bf.mp hd
 exact h x hx
theorem okN_up{n k:Nat}{d:D}(h:okN n d)(hk:n≤k):okN k d:=⟨h.1,aI h.2 hk⟩
theorem okN_int{i:Int}:okN 0 (.int i):=⟨rfl,ar 0⟩
theorem okN_bl{b:Bool}:okN 0 (.bl b):=⟨rfl,ar 0⟩
theorem okN_row(r:List Bool):okN 1 (z3n r):=y8N fun _ _=>okN_bl
theorem okN_tab(T:LB):okN 2 (z0q T):=y8N fun r _=>okN_row r
theorem okP_of{n:Nat}{d:D}(h:okN n d)(hn:n≤60):okP d=true:=by
 unfold okP
 rw[aJ,decide_eq_true_eq]
 exact⟨h.1,aI h.2 hn⟩
theorem y8n{n:Nat}{d:D}(h:okN n d)(hn:n≤60):neD d d=some (.bl false):=y2y (okP_of h hn)
theorem y3r{x:D}{r:List D}:atI (x::r) 0=some x:=z2q (j:=0) rfl
theorem x0R{n d:Nat}:HT.sIx n d (some (-1))=n - 1:=by
 show(if(-1:Int)<0 then((-1:Int)+(n:Int)).toNat else min (-1:Int).toNat n)=_
 rw[if_pos ⋯]
 omega
theorem z7u{ds:List D}{k:Nat}(hk:k≤ds.length):z6G ds none (some (k:Int))=ds.take k:=by
 unfold z6G
 have e1:HT.sIx ds.length 0 none=0:=rfl
 have e2:HT.sIx ds.length ds.length (some (k:Int))=k:=by
  show(if(k:Int)<0 then((k:Int)+(ds.length:Int)).toNat else min (k:Int).toNat ds.length)=k
  rw[if_neg ⋯]
  omega
 rw[e1,e2,List.drop_zero,Nat.sub_zero]
theorem y1z{ds:List D}{k:Nat}:z6G ds (some (k:Int)) none=ds.drop k:=by
 unfold z6G
 have e1:HT.sIx ds.length 0 (some (k:Int))=min k ds.length:=by
  show(if(k:Int)<0 then((k:Int)+(ds.length:Int)).toNat else min (k:Int).toNat ds.length)=_
  rw[if_neg ⋯,dQ]
 have e2:HT.sIx ds.length ds.length none=ds.length:=rfl
 rw[e1,e2]
 by_cases h:k≤ds.length
 ·rw[cZ h]
  exact aS (by rw[dR];exact ar _)
 ·rw[dU ⋯,eQ (ar _),eQ ⋯,eF]
def catSO(x y:Option D):Option (List D):=x.bind fun x=>y.bind fun y=>catSs x y
theorem y9V{f g:DE}{δ:DS}:z7Q f g δ=catSO (f δ) (g δ):=(rfl)
theorem catS_rl{o ns:List Int}(h:ns.length+o.length≤1000000):catSO (some (.scr ns)) (some (.lst (o.map .int)))=some ((ns++o).map .int):=by
 show(if(ns.map D.int).length+(o.map D.int).length≤sizeLine then some (ns.map D.int++o.map D.int)else none)=_
 rw[if_pos (z1A (by simpa using h)),aR]
def cM2(F:List D->Option D)(a b:Option D)(cs:Option (List D)):Option D:=a.bind fun a=>b.bind fun b=>cs.bind fun cs=>F (a::b::cs)
theorem y1v{F:List D->Option D}{f0 f1:DE}{fl:List DE}{δ:DS}:z7H F f0 f1 fl δ=cM2 F (f0 δ) (f1 δ) (z0j fl δ):=(rfl)
theorem x2Q{F:List D->Option D}{a b:D}{cs:List D}:cM2 F (some a) (some b) (some cs)=F (a::b::cs):=(rfl)
def r1O(x:Option D):Option Out:=x.map fun d=>.rt (.lst [d])
theorem y9c{i:Nat}{s:SS}:ret1 i s=r1O (y7z s i):=(rfl)
theorem eo_r1{d:D}:r1O (some d)=some (.rt (.lst [d])):=(rfl)
theorem y4e{np nl:Nat}{b:SS->Option Out}{du d0:D}{ds:List D}{d:D}(hl:ds.length+2=np)(h:hol (b (some (.sh du)::some (.ow d0)::ds.map (fun d=>some (.sh d))++ad nl none)) fun o=>o = .rt d):y2C np nl b (du::d0::ds)=some d:=by
 obtain⟨o,e,rfl⟩:=h
 show(if ds.length+2=np then _ else none)=some d
 rw[if_pos hl]
 rw[e]
def extDV(o x:Option D):Option D:=match x,o with
 |some (.lst es),some (.lst ds)=>if z2d es=true∧ds.length+es.length≤sizeLine then some (.lst (ds++es))else none
 |_,_=>none
theorem y4t{i:Nat}{f:DE}{s:SS}:y8m i f s=z8t i (extDV (owA i s) (f (z0w s))) s:=by
 unfold y8m owA
 cases f (z0w s)with
 |none=>rcases s[i]? with _ | _ | ⟨x | x | ⟨r,x⟩⟩ <;> rfl
 |some d=>
  cases d <;> rcases s[i]? with _ | _ | ⟨x | x | ⟨r,x⟩⟩ <;> (first | rfl | (cases x <;> (first | rfl | (show(if _ then _ else _)=z8t i (if _ then _ else _) s;split <;> rfl))))
theorem eo_extD{ds es:List D}(hi:z2d es=true)(h:ds.length+es.length≤1000000):extDV (some (.lst ds)) (some (.lst es))=some (.lst (ds++es)):=if_pos ⟨hi,z1A h⟩
theorem ev_litT{rs:List (List Int)}{δ:DS}:y5q rs δ=some (rs.map fun r=>.tup (r.map .int)):=(rfl)
def st0NV(o k v:Option D):Option D:=match o,k,v with
 |some (.lst ds),some (.int k),some d=>(ixN ds.length k).map fun j=>.lst (ds.set j d)
 |_,_,_=>none
theorem y8f{i:Nat}{fk fv:DE}{s:SS}:st0N i fk fv s=z8t i (st0NV (owA i s) (fk (z0w s)) (fv (z0w s))) s:=by
 unfold st0N owA
 rcases fv (z0w s)with _ | d
 ·rcases fk (z0w s)with _ | k <;> rcases s[i]? with _ | _ | ⟨x | x | ⟨r,x⟩⟩ <;> (first | rfl | (cases x <;> first | rfl | (cases k <;> rfl)))
 ·rcases fk (z0w s)with _ | k
  ·rcases s[i]? with _ | _ | ⟨x | x | ⟨r,x⟩⟩ <;> (first | rfl | (cases x <;> rfl))
  ·rcases s[i]? with _ | _ | ⟨x | x | ⟨r,x⟩⟩ <;> cases k <;> (first | rfl | (cases x <;> first | rfl | skip))
   rename_i k ds
   show(ixN ds.length k).map _=z8t i ((ixN ds.length k).map _) s
   cases ixN ds.length k <;> rfl
theorem x2c{ds:List D}{k:Nat}{d:D}(h:k<ds.length):st0NV (some (.lst ds)) (some (.int (k:Int))) (some d)=some (.lst (ds.set k d)):=by
 show(ixN ds.length (k:Int)).map _=_
 rw[x3U h]
 rfl
def sD(th:List Nat):D:=.scr (th.map fun n=>((n:Nat):Int))
theorem ev_fz{f:DE}{δ:DS}:dFz f δ=(f δ).bind fzD:=(rfl)
theorem sD_n(th:List Nat):(th.map fun n=>((n:Nat):Int)).map D.int=th.map nD:=by rw[bp];rfl
theorem y6v{th:List Nat}:y4R (sD th)=some (th.map nD):=by
 show some ((th.map fun n=>((n:Nat):Int)).map D.int)=_
 rw[sD_n]
theorem len_sc{th:List Nat}:z1M [sD th]=some (.int (th.length:Int)):=by
 show some (D.int ((th.map fun n=>((n:Nat):Int)).length:Int))=_
 rw[ao]
theorem y9q{th:List Nat}:z6Q [sD th]=some (th.map nD):=by
 show some ((th.map fun n=>((n:Nat):Int)).map D.int)=_
 rw[sD_n]
theorem ix_sc{th:List Nat}{k:Nat}(h:k<th.length):ixD (sD th) (.int (k:Int))=some (nD (th.getD k 0)):=by
 show(atI (th.map fun n=>((n:Nat):Int)) (k:Int)).map D.int=_
 rw[y1I (by rw[ao];exact h),bN]
 simp[cf,h,nD]
theorem cut_sc{th:List Nat}{lo hi:Option Int}:y3b (some (sD th)) (some lo) (some hi)=y3b (some (thD th)) (some lo) (some hi):=by
 show some (z6G ((th.map fun n=>((n:Nat):Int)).map D.int) lo hi)=some (z6G (th.map nD) lo hi)
 rw[sD_n]
theorem y8M:∀o:List Nat,z8a (o.map nD)=some (o.map fun n=>((n:Nat):Int))
 |[]=>rfl
 |n::r=>by
  show(z8a (r.map nD)).map (((n:Nat):Int) :: ·)=_
  rw[y8M r]
  rfl
theorem fz_th{th:List Nat}:fzD (thD th)=some (sD th):=by
 show(match z8a (th.map nD)with | some ns=>some (D.scr ns) | none=>(x1U (th.map nD)).map .lst)=_
 rw[y8M]
 rfl
theorem y1g:∀o:List Int,PyData.canLayAll0 (o.map PyData.int)=true
 |[]=>rfl
 |n::r=>by
  show(PyData.canLay0 (.int n)&&PyData.canLayAll0 (r.map PyData.int))=true
  rw[y1g r]
  rfl
theorem y1F:∀o:List Int,PyData.depthAll (o.map PyData.int)=0
 |[]=>rfl
 |n::r=>by
  show max (PyData.depth (.int n)) (PyData.depthAll (r.map PyData.int))=0
  rw[y1F r]
  rfl
theorem okN_sc(th:List Nat):okN 1 (sD th):=⟨y1g _,by
 show PyData.depthAll _+1≤1
 rw[y1F]
 omega⟩
section
end
section
end
section
end
end L2
set_option maxHeartbeats 4000000
namespace Prg
open PySem PySem.Spec PyProof.Rows L2
def top(i:Nat):Stmt:=PySem.Challenge.pw_askorder_k46_best_for_a_wish.main.body.getD i (.Pass ⟨0,0,0,0⟩)
abbrev z5v:Stmt:=top 6
abbrev y2G:List Str:=["table", "one"]
abbrev z7n:List Str:=["table", "one"]
abbrev z5e:Stmt:=top 7
abbrev y2h:List Str:=["table", "one", "things"]
abbrev z7h:List Str:=["table", "one", "things"]
abbrev z3B:Stmt:=top 8
abbrev z9R:List Str:=["marks"]
abbrev z5I:List Str:=["marks"]
abbrev z6f:Stmt:=top 10
abbrev y5F:List Str:=["value", "many"]
abbrev z8I:List Str:=["value", "many"]
abbrev z1V:Stmt:=top 11
abbrev z6h:List Str:=["order", "many", "told", "thing"]
abbrev z3t:List Str:=["order", "many"]
abbrev z3G:Stmt:=top 13
abbrev y0j:List Str:=["order", "many"]
abbrev z3Q:List Str:=["order", "many"]
abbrev z6y:Stmt:=top 15
abbrev y5n:List Str:=["table", "things"]
abbrev z8H:List Str:=["table", "things"]
abbrev z7I:Stmt:=top 16
abbrev y7l:List Str:=["table", "things"]
abbrev y0J:List Str:=["table", "things"]
abbrev z9K:Stmt:=top 17
abbrev x1F:List Str:=["table", "chain"]
abbrev y4F:List Str:=["table", "chain"]
abbrev z3A:Stmt:=top 19
abbrev y0l:List Str:=["table", "thing", "chains", "chain"]
abbrev z5B:List Str:=["table", "thing"]
abbrev z2k:Stmt:=top 20
abbrev z8A:List Str:=["table", "chain", "further", "chains", "thing"]
abbrev z3j:List Str:=["table", "chain", "further"]
abbrev z7P:Stmt:=top 22
abbrev y7M:List Str:=["table", "one"]
abbrev y0K:List Str:=["table", "one"]
abbrev z4q:Stmt:=top 23
abbrev y1R:List Str:=["table", "one", "steps", "edge", "further", "here", "other"]
abbrev z6L:List Str:=["table", "one"]
abbrev y2N:Stmt:=top 24
abbrev kh:List Str:=["table", "counts"]
abbrev y8B:List Str:=["table"]
abbrev z3R:Stmt:=top 25
abbrev y0d:List Str:=["counts", "wanted"]
abbrev z5T:List Str:=["counts", "wanted"]
abbrev z6n:Stmt:=top 26
abbrev y5N:List Str:=["table"]
abbrev z8S:List Str:=["table"]
abbrev z6d:Stmt:=top 27
abbrev y5p:List Str:=["table", "one", "from_the_top", "row", "ring"]
abbrev z6o:List Str:=["table", "one"]
abbrev z4o:Stmt:=top 28
abbrev y0X:List Str:=["circle", "one", "place"]
abbrev z6P:List Str:=["circle", "one"]
abbrev z6l:Stmt:=top 29
abbrev y5b:List Str:=["table", "ring", "circle", "wider"]
abbrev z8V:List Str:=["table", "ring"]
abbrev z7v:Stmt:=top 30
abbrev y6S:List Str:=["table", "circle", "ring", "left", "place", "here", "behind", "between"]
abbrev y0T:List Str:=["table", "circle", "ring"]
abbrev z9h:Stmt:=top 31
abbrev x0C:List Str:=["table", "here", "behind", "left", "one", "other"]
abbrev y4I:List Str:=["table", "here", "behind", "left"]
abbrev z6i:Stmt:=top 33
abbrev y5P:List Str:=["table", "thing", "top"]
abbrev z8K:List Str:=["table", "thing"]
abbrev z6u:Stmt:=top 34
abbrev y4W:List Str:=["table", "thing", "paper", "chain", "others"]
abbrev z8Y:List Str:=["table", "thing"]
abbrev z7z:Stmt:=top 35
abbrev y8l:List Str:=["table", "thing", "top"]
abbrev y0Q:List Str:=["table", "thing"]
abbrev z5w:Stmt:=top 37
abbrev y2v:List Str:=["table", "kind", "thing"]
abbrev z5s:List Str:=["table", "kind", "thing"]
abbrev z5g:Stmt:=top 38
abbrev y3d:List Str:=["table", "kind", "papers"]
abbrev z5d:List Str:=["table", "kind"]
abbrev z6k:Stmt:=top 39
abbrev y5r:List Str:=["table", "kind", "wish", "orders", "best"]
abbrev z6r:List Str:=["table", "kind", "wish"]
abbrev z3k:Stmt:=top 41
abbrev z8k:List Str:=["script", "k"]
abbrev z4Z:List Str:=["script", "k"]
abbrev z4m:Stmt:=top 42
abbrev y1k:List Str:=["found"]
abbrev z6H:List Str:=["found"]
abbrev z4w:Stmt:=top 43
abbrev y1S:List Str:=["cell", "many", "order", "k"]
abbrev z6J:List Str:=["cell", "many"]
abbrev z4t:Stmt:=top 44
abbrev y0A:List Str:=["script", "many", "seed", "table", "pairs", "a", "b", "bits", "p", "k"]
abbrev z6M:List Str:=["script", "many"]
abbrev z4e:Stmt:=top 45
abbrev y1y:List Str:=["places", "bits", "beats", "table", "one", "other", "last"]
abbrev z6O:List Str:=["places", "bits"]
abbrev z5t:Stmt:=top 46
abbrev y3a:List Str:=["table"]
abbrev z8g:List Str:=["table"]
abbrev z2H:Stmt:=top 47
abbrev z7L:List Str:=["found", "many", "one"]
abbrev z4k:List Str:=["found", "many"]
abbrev z3X:Stmt:=top 48
abbrev y1q:List Str:=["table", "order", "standing", "one"]
abbrev z6I:List Str:=["table", "order"]
abbrev z4l:Stmt:=top 49
abbrev y0E:List Str:=["table", "order", "chain", "one"]
abbrev z6K:List Str:=["table", "order"]
abbrev z5c:Stmt:=top 50
abbrev y2Q:List Str:=["table", "order", "end", "one"]
abbrev z7q:List Str:=["table", "order"]
abbrev z6C:Stmt:=top 51
abbrev y6c:List Str:=["table", "kind", "order"]
abbrev z8L:List Str:=["table", "kind", "order"]
abbrev z6q:Stmt:=top 52
abbrev y5C:List Str:=["table", "many", "comes", "c", "a", "b"]
abbrev z8N:List Str:=["table"]
abbrev z3d:Stmt:=top 53
abbrev z8v:List Str:=["things", "found", "one"]
abbrev z4R:List Str:=["things"]
abbrev z2b:Stmt:=top 54
abbrev z6p:List Str:=["table", "things", "a", "b", "back"]
abbrev z3v:List Str:=["table", "things"]
abbrev z3e:Stmt:=top 55
abbrev z8u:List Str:=["table", "things", "found", "one"]
abbrev z4V:List Str:=["table", "things"]
abbrev z2Z:Stmt:=top 56
abbrev z8m:List Str:=["table", "thing", "beaten", "some"]
abbrev z4Q:List Str:=["table", "thing"]
abbrev z3g:Stmt:=top 57
abbrev z8y:List Str:=["table", "kind", "wish", "e"]
abbrev z4T:List Str:=["table", "kind", "wish"]
abbrev z6e:Stmt:=top 58
abbrev y5U:List Str:=["table", "kind"]
abbrev z8R:List Str:=["table", "kind"]
abbrev z9g:Stmt:=top 59
abbrev ko:List Str:=["script", "many", "table", "wish", "handed", "kind", "found", "had", "word", "some", "bad"]
abbrev j3:List Str:=["script"]
theorem nd0:(["table", "one", "things", "other"]:List Str).Nodup:=by decide +kernel
theorem nd1:(["marks", "place", "mark"]:List Str).Nodup:=by decide +kernel
theorem nd2:(["table", "things", "place", "one"]:List Str).Nodup:=by decide +kernel
theorem nd3:(["table", "things", "one"]:List Str).Nodup:=by decide +kernel
theorem nd4:(["table", "chain", "further", "chains", "thing", "other"]:List Str).Nodup:=by decide +kernel
theorem nd5:(["table", "thing", "chains", "3", "chain"]:List Str).Nodup:=by decide +kernel
theorem nd6:(["counts", "wanted", "place", "count"]:List Str).Nodup:=by decide +kernel
theorem nd7:(["table", "counts", "count"]:List Str).Nodup:=by decide +kernel
theorem nd8:(["table", "counts", "one"]:List Str).Nodup:=by decide +kernel
theorem nd9:(["table", "circle", "ring", "left", "place", "here", "behind", "between", "thing"]:List Str).Nodup:=by decide +kernel
theorem nd10:(["table", "thing", "paper", "chain", "others", "other"]:List Str).Nodup:=by decide +kernel
theorem nd11:(["table", "kind", "papers", "paper"]:List Str).Nodup:=by decide +kernel
theorem nd12:(["table", "kind", "papers", "thing"]:List Str).Nodup:=by decide +kernel
theorem nd13:(["table", "kind", "wish", "orders", "best", "thing"]:List Str).Nodup:=by decide +kernel
theorem nd14:(["script", "many", "seed", "table", "pairs", "a", "b", "bits", "p", "9", "k"]:List Str).Nodup:=by decide +kernel
theorem nd15:(["places", "bits", "beats", "table", "one", "other", "last", "k"]:List Str).Nodup:=by decide +kernel
theorem nd16:(["table", "row"]:List Str).Nodup:=by decide +kernel
theorem nd17:(["table", "order", "chain", "one", "other"]:List Str).Nodup:=by decide +kernel
theorem nd18:(["table", "many", "comes", "c", "4", "b", "a"]:List Str).Nodup:=by decide +kernel
theorem nd19:(["table", "many", "comes", "c", "4", "5", "a", "b"]:List Str).Nodup:=by decide +kernel
theorem nd20:(["things", "found", "one", "some"]:List Str).Nodup:=by decide +kernel
theorem nd21:(["table", "things", "a", "b", "back", "c"]:List Str).Nodup:=by decide +kernel
theorem nd22:(["table", "things", "found", "one", "other"]:List Str).Nodup:=by decide +kernel
theorem nd23:(["table", "thing", "beaten", "some", "other"]:List Str).Nodup:=by decide +kernel
theorem nd24:(["table", "kind", "thing"]:List Str).Nodup:=by decide +kernel
theorem nd25:(["script", "many", "table", "wish", "handed", "kind", "found", "had", "word", "some", "bad", "thing"]:List Str).Nodup:=by decide +kernel
def z5h:SS->Option Out:=(z2N (z0k allF [(mkL (z1c (z4K (z0b 2)) z5z (d2 ixD (d2 ixD (z0b 0) (z0b 1)) (z0b 3))))]))
def z1v:List D->Option D:=z2g 3 0 z5h
def z3P:SS->Option Out:=(z8j (z0u (z6E (y2W (z0b 0)) (z0v (z0b 2)) (z0b 1))))
def z2x:List D->Option D:=z2g 1 0 z3P
def z5f:SS->Option Out:=(z8j (z0k z2x [(d2 ixD (z0b 0) (z0b 1))]))
def z1u:List D->Option D:=z2g 2 0 z5f
def z4H:SS->Option Out:=(z2N (x3u (dIs "int" (z0b 0)) (x3u (d1 uNot (dIs "bool" (z0b 0))) (z8J leI ltI (dC (.int 0)) (z0b 0) (z0b 1)))))
def z2G:List D->Option D:=z2g 2 0 z4H
def z0T:SS->Option Out:=(z0E (ifO (z0D (d2 neD (z0k z1M [(z0b 0)]) (z0b 1))) (z2N (dC (.bl false))) z0P)
 (z0E (z6S 2 (dC (.dct [] [])))
 (z0E (z4N 3 (z4K (z0b 0)) (z0E (ifO (z9S (z2B (z0v (z0k z2G [(z0b 3),(z0b 1)]))) (x0q (z0b 3) (z0b 2))) (z2N (dC (.bl false))) z0P)
 (dput 2 (z0b 3) (dC (.bl true)))))
 (z2N (dC (.bl true))))))
def z0Y:List D->Option D:=z2g 2 2 z0T
def z2C:SS->Option Out:=(ifO (z9S (z0D (d2 eqD (z0b 1) (dC (.int 0)))) (z2B (z0v (z0k z0Y [(z0b 0),(z0b 1)])))) (z6N 1 (dC (.str "the order does not tell each thing once and nothing else"))) z0P)
def z1K:List D->Option XO:=z9M 2 0 z2C
def z4L:SS->Option Out:=(z0E (ifO (z0D (d2 eqD (z0k z1M [(z0b 1)]) (dC (.int 0)))) (z2N (dC (.bl false))) z0P)
 (z2N (z0k allF [(mkL (z6E (y2W (z0b 1)) z5z (z0k z1v [(z0b 0),(z0b 3),(mkL (z7S (z0b 1) (z2A (d2 y6A (z0b 2) (dC (.int 1)))) z1a))])))])))
def z4F:List D->Option D:=z2g 2 0 z4L
def z8e:SS->Option Out:=(z8j (z0u (z1c (z1j (z0k z1M [(z0b 0)])) (z0v (z0k z1v [(z0b 0),(z0b 2),(z0b 1)])) (z0b 2))))
def z2K:List D->Option D:=z2g 2 0 z8e
def y0m:SS->Option Out:=(z2N (x3u (z0k z4F [(z0b 0),(z0b 1)]) (d2 eqD (z0k z1M [(z0k z2K [(z0b 0),(z0b 1)])]) (dC (.int 0)))))
def z5C:List D->Option D:=z2g 2 0 y0m
def z2i(mR:List D->Option D):SS->Option Out:=(z0E (ifO (z2B (z0v (z0b 2))) (ret1 1) z0P)
 (z0E (z6S 3 (z0u (z0j [])))
 (z0E (z4N 4 (z4K (z0b 2)) (y7b 3 (z7H mR (z0b 0) (z0u (y3P (z0b 1) (mkL (z0j [(z0b 4)])))) [(mkL (z1c (z4K (z0b 2)) (z0v (d2 ixD (d2 ixD (z0b 0) (z0b 4)) (z0b 5))) (z0b 5)))])))
 (y6h 3))))
def z1k:Nat->List D->Option D
 |0=>y2C 3 2 fun _=>none
 |n+1=>y2C 3 2 (z2i (z1k n))
def z2c:List D->Option D:=z1k 12
def z3J:SS->Option Out:=(z0E (z5j 2 (z7H z2c (z0b 0) (z0u (z0j [(z0b 1)])) [(z0k z1u [(z0b 0),(z0b 1)])]))
 (z0E (z4N 3 (z4K (z0b 2)) (ifO (z0v (z0k z5C [(z0b 0),(z0b 3)])) (z8n (mkT (z0j [(dC (.str "chain")),(z0b 3)]))) z0P))
 (z8n (mkT (z0j [(dC (.str "beaten")),(mkL (z1c (z4K (z0b 2)) z5z (mkT (z0j [(z0b 4),(d2 ixD (z0k z2K [(z0b 0),(z0b 4)]) (dC (.int 0)))]))))])))))
def z2y:List D->Option D:=z2g 2 2 z3J
def z4y:SS->Option Out:=(z0E (z6S 2 (y9p (z0b 1) (z0b 1)))
 (z0E (z6S 3 (z0u (z0j [(z0b 1)])))
 (z0E (z4S (z0v (z0b 3)) (z0E (z6S 4 (z0u (z0j [])))
 (z0E (frzO 3 (z4N 5 (z4K (z0b 3)) (z4N 6 (z4K (z0k z1u [(z0b 0),(z0b 5)])) (ifO (x1u (z0b 6) (z0b 2)) (z0E (dput 2 (z0b 6) (z0b 5))
 (m0 4 y2q [(z0b 6)])) z0P))))
 (movO 3 4))) 100)
 (y6h 2))))
def z2X:List D->Option D:=z2g 2 5 z4y
def z7M:SS->Option Out:=(z8j (z0u (z1z y0G [(z0k z2X [(z0b 0),(z0b 1)])])))
def z4i:List D->Option D:=z2g 2 0 z7M
def z3O:SS->Option Out:=(z8j (z0u (z6E (y2W (z0b 0)) (z0D (d2 eqD (z0b 3) (z0b 1))) (z0b 2))))
def z1L:List D->Option D:=z2g 2 0 z3O
def y2g:SS->Option Out:=(z0E (z6S 1 (z0u (z1c (z1j (z0k z1M [(z0b 0)])) z5z (z0k z1M [(z0k z4i [(z0b 0),(z0b 2)])]))))
 (z8j (mkL (z1c (x2k (z0k z1M [(z0b 0)]) (dC (.int 0)) (d1 x1S (dC (.int 1)))) (z0D (d2 inD (z0b 2) (z0b 1))) (z0k z1L [(z0b 1),(z0b 2)])))))
def z5Z:List D->Option D:=z2g 1 1 y2g
def z6x:SS->Option Out:=(z8j (d2 ixL (z0k z5Z [(z0b 0)]) (dC (.int 0))))
def z2E:List D->Option D:=z2g 1 0 z6x
def z3W:SS->Option Out:=(z0E (y0o 2 (d2 lixF (z0b 0) (z0b 1)))
 (z8j (z0u (y3P (mkL (z7S (z0b 0) (z2A (z0b 2)) z1a)) (mkL (z7S (z0b 0) z1a (z2A (z0b 2))))))))
def z2W:List D->Option D:=z2g 2 1 z3W
def y0f:SS->Option Out:=(z0E (z4N 4 (z4K (z0b 3)) (ifO (z3T (z0v (d2 ixD (d2 ixD (z0b 0) (z0b 1)) (z0b 4))) (z0v (d2 ixD (d2 ixD (z0b 0) (z0b 4)) (z0b 2)))) (z8j (z0u (z0j [(z0b 4)]))) z0P))
 (z0E (z4N 4 (z4K (z0b 3)) (z4N 5 (z4K (z0b 3)) (ifO (z3T (z0v (d2 ixD (d2 ixD (z0b 0) (z0b 1)) (z0b 4))) (z3T (z0v (d2 ixD (d2 ixD (z0b 0) (z0b 4)) (z0b 5))) (z0v (d2 ixD (d2 ixD (z0b 0) (z0b 5)) (z0b 2))))) (z8j (z0u (z0j [(z0b 4),(z0b 5)]))) z0P)))
 (z8j (z0u (z0j [])))))
def z5A:List D->Option D:=z2g 4 2 y0f
def z7G:SS->Option Out:=(z0E (z5j 3 (mkL (z1c (z4K (z0b 2)) (z0D (d2 y6g (z0b 8) (z0b 1))) (z0b 8))))
 (z0E (y6s 4 5 (y2W (z0b 1)) (z0E (y0o 6 (d2 ixD (z0b 1) (d2 z3U (d2 y6A (z0b 4) (dC (.int 1))) (z0k z1M [(z0b 1)]))))
 (z0E (z5j 7 (z0k z5A [(z0b 0),(z0b 5),(z0b 6),(z0b 3)]))
 (ifO (z0v (z0b 7)) (z8n (mkL (y3P (mkL (y3P (mkL (z7S (z0b 1) z1a (z2A (d2 y6A (z0b 4) (dC (.int 1)))))) (z0b 7))) (mkL (z7S (z0b 1) (z2A (d2 y6A (z0b 4) (dC (.int 1)))) z1a))))) z0P))))
 (z8n (z0b 1))))
def z3s:List D->Option D:=z2g 3 5 z7G
def z6a:SS->Option Out:=(z0E (z5j 2 (mkL (z0j [(z0k x0j [(z0b 1)])])))
 (z0E (z5j 3 (z0k z3s [(z0b 0),(z0b 2),(z0b 1)]))
 (z0E (z4S (z0D (d2 gtI (z0k z1M [(z0b 3)]) (z0k z1M [(z0b 2)]))) (z0E (z5j 2 (z0b 3))
 (z5j 3 (z0k z3s [(z0b 0),(z0b 2),(z0b 1)]))) 100)
 (z8n (z0b 2)))))
def z2F:List D->Option D:=z2g 2 2 z6a
def z6B:SS->Option Out:=(z0E (z5j 2 (z0k z5Z [(z0b 0)]))
 (z0E (ifO (z0D (d2 y6g (z0b 1) (d2 ixD (z0b 2) (dC (.int 0))))) (z6N 2 (dC (.str "the thing does not lie in the top ring"))) z0P)
 (z0E (z6S 3 (z0k z2W [(z0k z2F [(z0b 0),(d2 ixD (z0b 2) (dC (.int 0)))]),(z0b 1)]))
 (z0E (z4N 4 (z4K (mkL (z7S (z0b 2) (z2A (dC (.int 1))) z1a))) (y8m 3 (z0k z2F [(z0b 0),(z0b 4)])))
 (y6h 3)))))
def z1Q:List D->Option XO:=z9M 2 3 z6B
def z4G:SS->Option Out:=(z0E (z5j 2 (z0k z2E [(z0b 0)]))
 (z0E (ifO (z0D (d2 y6g (z0b 1) (z0b 2))) (z8n (mkT (z0j [(dC (.str "shut")),(z0b 2)]))) z0P)
 (z8n (mkT (z0j [(dC (.str "order")),(mkL (z1z revF [(z2l z1Q [(z0b 0),(z0b 1)])]))])))))
def z3q:List D->Option D:=z2g 2 1 z4G
def z4E:SS->Option Out:=(z0E (z5j 2 (z0k z2y [(z0b 0),(z0b 1)]))
 (z0E (ifO (z0D (d2 eqD (d2 ixD (z0b 2) (dC (.int 0))) (dC (.str "beaten")))) (z8n (z0b 2)) z0P)
 (z0E (z5j 3 (d2 ixD (z0b 2) (dC (.int 1))))
 (z0E (z5j 4 (mkL (z1c (z1j (z0k z1M [(z0b 0)])) (z0D (d2 y6g (z0b 5) (z0b 3))) (z0b 5))))
 (z8n (mkT (z0j [(dC (.str "order")),(mkL (y3P (z0b 4) (z0b 3))),(z0b 3)])))))))
def z3u:List D->Option D:=z2g 2 3 z4E
def z5R:SS->Option Out:=(z0E (z5j 2 (z0k z2E [(z0b 0)]))
 (z0E (ifO (z0D (d2 y6g (z0b 1) (z0b 2))) (z8n (mkT (z0j [(dC (.str "shut")),(z0b 2)]))) z0P)
 (z8n (mkT (z0j [(dC (.str "order")),(z2l z1Q [(z0b 0),(z0b 1)])])))))
def z3Z:List D->Option D:=z2g 2 1 z5R
def z1b:SS->Option Out:=(z0E (ifO (z0D (d2 eqD (z0b 1) (dC (.str "plain")))) (z8n (z0k z3q [(z0b 0),(z0b 2)])) z0P)
 (z0E (ifO (z0D (d2 eqD (z0b 1) (dC (.str "ahead")))) (z8n (z0k z3u [(z0b 0),(z0b 2)])) z0P)
 (z0E (ifO (z0D (d2 eqD (z0b 1) (dC (.str "rest")))) (z8n (z0k z3Z [(z0b 0),(z0b 2)])) z0P)
 (z6N 3 (dC (.str "there is no such kind"))))))
def z0o:List D->Option XO:=z9M 3 0 z1b
def z3z:SS->Option Out:=(z0E (altO (z5j 2 (mkL (z1c (z1j (z0k z1M [(z0b 0)])) z5z (z2l z0o [(z0b 0),(z0b 1),(z0b 3)])))) (exc1 (z1j (z0k z1M [(z0b 0)])) (z1y z0o [(z0b 0),(z0b 1),(z0b 3)])))
 (z8n (mkL (z1c (z4K (z0b 2)) z5z (dIf (z0D (d2 eqD (d2 ixD (z0b 3) (dC (.int 0))) (dC (.str "order")))) (d2 ixD (z0b 3) (dC (.int 1))) (dC .non))))))
def z1m:List D->Option XO:=z9M 2 1 z3z
def z3r:SS->Option Out:=(z0E (z8s 3 (z1y z1m [(z0b 0),(z0b 1)]))
 (z0E (y0s (z1y z1K [(z0b 2),(z0k z1M [(z0b 0)])]))
 (z0E (y0o 4 (d2 ixD (mkL (z1c (z4K (z0b 2)) (y7R (d2 ixD (z0b 3) (z0b 5))) (z0b 5))) (dC (.int 0))))
 (z8n (mkT (z0j [(z0b 4),(d2 ixD (z0b 3) (z0b 4))]))))))
def z1d:List D->Option XO:=z9M 3 2 z3r
def z2j:SS->Option Out:=(z0E (ifO (z0D (d2 ltI (z0b 1) (z0k z1M [(z0b 0)]))) (z2N (d2 ixD (z0b 0) (z0b 1))) z0P)
 (z2N (dC (.int 0))))
def z0p:List D->Option D:=z2g 2 0 z2j
def z4r:SS->Option Out:=(z2N (x3u (dIs "int" (z0b 0)) (d1 uNot (dIs "bool" (z0b 0)))))
def z1w:List D->Option D:=z2g 1 0 z4r
def z4f:SS->Option Out:=(z0E (z6S 2 (z0u (z0j [])))
 (z0E (z4N 3 (z1j (z0b 1)) (z0E (m0 2 insF [(d2 z3U (z0b 0) (d2 y6A (z0b 3) (dC (.int 1)))),(z0b 3)])
 (y0o 0 (d2 z8h (z0b 0) (d2 y6A (z0b 3) (dC (.int 1)))))))
 (y6h 2)))
def z1B:List D->Option D:=z2g 2 2 z4f
def z4b:SS->Option Out:=(z0E (y0o 2 (d2 z3U (z0k z0p [(z0b 0),(dC (.int 1))]) (dC (.int 1000003))))
 (z0E (z6S 3 (mkL (z1c (z1j (z0b 1)) z5z (z0u (x1s (mkL (z0j [(dC (.bl false))])) (z0b 1))))))
 (z0E (z6S 4 (z0u (z0j [])))
 (z0E (z4N 5 (z1j (z0b 1)) (z4N 6 (z1j (z0b 5)) (m0 4 y2q [(mkT (z0j [(z0b 5),(z0b 6)]))])))
 (z0E (z6S 7 (z0u (x1s (mkL (z0j [(dC (.int 0))])) (z0k z1M [(z0b 4)]))))
 (z0E (frzO 4 (z4N 8 (z1j (z0k z1M [(z0b 4)])) (ifO (z0D (d2 gtI (d2 z3U (z0b 2) (dC (.int 3))) (dC (.int 0)))) (st0 7 (z0b 8) (d2 z3U (d2 z8h (d2 z3U (d2 x3M (z0b 2) (d2 y6A (dC (.int 48271)) (d2 x3M (d2 x3M (dC (.int 7919)) (z0b 8)) (z0b 8)))) (dC (.int 2147483647))) (dC (.int 1024))) (dC (.int 2)))) z0P)))
 (z0E (z4N 9 (x1B (dC (.int 3)) (z0k z1M [(z0b 0)])) (ifO (z0D (d2 gtI (z0k z1M [(z0b 4)]) (dC (.int 0)))) (st0 7 (d2 z3U (z0b 9) (z0k z1M [(z0b 4)])) (d2 z3U (d2 y6A (d2 ixD (z0b 7) (d2 z3U (z0b 9) (z0k z1M [(z0b 4)]))) (d2 ixD (z0b 0) (z0b 9))) (dC (.int 2)))) z0P))
 (z0E (z4N 8 (z1j (z0k z1M [(z0b 4)])) (z0E (st1 3 (d2 ixD (d2 ixD (z0b 4) (z0b 8)) (dC (.int 0))) (d2 ixD (d2 ixD (z0b 4) (z0b 8)) (dC (.int 1))) (d2 eqD (d2 ixD (z0b 7) (z0b 8)) (dC (.int 1))))
 (st1 3 (d2 ixD (d2 ixD (z0b 4) (z0b 8)) (dC (.int 1))) (d2 ixD (d2 ixD (z0b 4) (z0b 8)) (dC (.int 0))) (d2 eqD (d2 ixD (z0b 7) (z0b 8)) (dC (.int 0))))))
 (y6h 3)))))))))
def z2S:List D->Option D:=z2g 2 8 z4b
def z4h:SS->Option Out:=(z0E (z6S 2 (z0u (y5q [[0,1],[0,2],[0,3],[1,2],[2,3],[4,0],[5,0],[6,0],[4,1],[4,2],[5,2],[5,3]])))
 (z0E (z6S 2 (z0u (y3P (z0b 2) (mkL (y5q [[6,3],[6,1],[3,4],[1,5],[2,6]])))))
 (z0E (m0 2 y2q [(d2 ixD (mkL (z0j [(mkT (z0j [(dC (.int 4)),(dC (.int 5))])),(mkT (z0j [(dC (.int 5)),(dC (.int 4))]))])) (d2 z3U (z0b 1) (dC (.int 2))))])
 (z0E (m0 2 y2q [(d2 ixD (mkL (z0j [(mkT (z0j [(dC (.int 4)),(dC (.int 6))])),(mkT (z0j [(dC (.int 6)),(dC (.int 4))]))])) (d2 z3U (d2 z8h (z0b 1) (dC (.int 2))) (dC (.int 2))))])
 (z0E (m0 2 y2q [(d2 ixD (mkL (z0j [(mkT (z0j [(dC (.int 5)),(dC (.int 6))])),(mkT (z0j [(dC (.int 6)),(dC (.int 5))]))])) (d2 z3U (d2 z8h (z0b 1) (dC (.int 4))) (dC (.int 2))))])
 (z0E (m0 2 y2q [(d2 ixD (mkL (z0j [(mkT (z0j [(dC (.int 3)),(dC (.int 1))])),(mkT (z0j [(dC (.int 1)),(dC (.int 3))]))])) (z0k y4Z [(d2 eqD (d2 z3U (d2 z8h (z0b 1) (dC (.int 8))) (dC (.int 3))) (dC (.int 1)))]))])
 (z0E (z6S 3 (mkL (z1c (z1j (z0k z1M [(z0b 0)])) z5z (z0u (x1s (mkL (z0j [(dC (.bl false))])) (z0k z1M [(z0b 0)]))))))
 (z0E (frzO 2 (y6s 4 5 (z4K (z0b 2)) (st1 3 (d2 ixD (z0b 0) (z0b 4)) (d2 ixD (z0b 0) (z0b 5)) (dC (.bl true)))))
 (z0E (z4N 6 (z4K (mkL (z7S (z0b 0) (z2A (dC (.int 7))) z1a))) (z0E (st0N 3 (z0b 6) (z0u (x1s (mkL (z0j [(dC (.bl false))])) (z0k z1M [(z0b 0)]))))
 (z4N 4 (z4K (mkL (z7S (z0b 0) z1a (z2A (dC (.int 7)))))) (st1 3 (z0b 4) (z0b 6) (dC (.bl true))))))
 (y6h 3))))))))))
def z2Q:List D->Option D:=z2g 2 5 z4h
def z5a:SS->Option Out:=(z8j (mkL (z1c (z4K (z0b 0)) z5z (z0u (z1z z6Q [(z0b 1)])))))
def z1R:List D->Option D:=z2g 1 0 z5a
def z2M:SS->Option Out:=(z0E (ifO (z9S (z2B (z0v (dIs "list" (z0b 0)))) (z0D (d2 neD (z0k z1M [(z0b 0)]) (z0b 1)))) (z2N (dC (.bl false))) z0P)
 (z0E (z4N 2 (z4K (z0b 0)) (ifO (z2B (z0v (z0k z1w [(z0b 2)]))) (z2N (dC (.bl false))) z0P))
 (z2N (d2 eqD (mkL (z1z y5E [(z0b 0)])) (mkL (z8E (z1j (z0b 1))))))))
def z1E:List D->Option D:=z2g 2 1 z2M
def z4x:SS->Option Out:=(z0E (y0o 2 (d2 ixD (z0b 1) (dC (.int 0))))
 (z0E (z4N 3 (z4K (mkL (z7S (z0b 1) (z2A (dC (.int 1))) z1a))) (ifO (z0v (d2 ixD (d2 ixD (z0b 0) (z0b 3)) (z0b 2))) (y0o 2 (z0b 3)) z0P))
 (z2N (z0b 2))))
def z2R:List D->Option D:=z2g 2 2 z4x
def z4d:SS->Option Out:=(z0E (z6S 2 (z0u (z0j [])))
 (z0E (z4N 3 (y9e (z0b 1)) (ifO (z0D (d2 eqD (z0k z1M [(mkL (z1c (z4K (z0b 2)) (z2B (z0v (d2 ixD (d2 ixD (z0b 0) (z0b 3)) (z0b 4)))) (z0b 4)))]) (dC (.int 0)))) (m0 2 insF [(dC (.int 0)),(z0b 3)]) z0P))
 (y6h 2)))
def z2T:List D->Option D:=z2g 2 2 z4d
def z5l:SS->Option Out:=(z0E (y0o 2 (d2 ixD (z0b 1) (d1 x1S (dC (.int 1)))))
 (z0E (z4N 3 (y9e (z0b 1)) (ifO (z0v (d2 ixD (d2 ixD (z0b 0) (z0b 3)) (z0b 2))) (y0o 2 (z0b 3)) z0P))
 (z2N (z0b 2))))
def z3N:List D->Option D:=z2g 2 2 z5l
def z3p:SS->Option Out:=(z0E (ifO (z0D (d2 eqD (z0b 1) (dC (.str "plain")))) (z8j (z0k z2R [(z0b 0),(z0b 2)])) z0P)
 (z0E (ifO (z0D (d2 eqD (z0b 1) (dC (.str "ahead")))) (z2N (d2 ixD (z0k z2T [(z0b 0),(z0b 2)]) (dC (.int 0)))) z0P)
 (z8j (z0k z3N [(z0b 0),(z0b 2)]))))
def z1x:List D->Option D:=z2g 3 0 z3p
def z6z:SS->Option Out:=(z0E (y0o 1 (z0k z1M [(z0b 0)]))
 (z0E (z6S 2 (z0k z1R [(z0b 0)]))
 (z0E (z4N 3 (z1j (z0b 1)) (z4N 4 (z1j (z0b 1)) (z4N 5 (z1j (z0b 1)) (ifO (z3T (z0v (d2 ixD (d2 ixD (z0b 2) (z0b 4)) (z0b 3))) (z0v (d2 ixD (d2 ixD (z0b 2) (z0b 3)) (z0b 5)))) (st1 2 (z0b 4) (z0b 5) (dC (.bl true))) z0P))))
 (z8j (z0u (z1c (z1j (z0b 1)) (z0D (d2 eqD (z0k z1M [(mkL (z1c (z1j (z0b 1)) (z3T (z0D (d2 neD (z0b 7) (z0b 6))) (z2B (z0v (d2 ixD (d2 ixD (z0b 2) (z0b 6)) (z0b 7))))) (z0b 7)))]) (dC (.int 0)))) (z0b 6)))))))
def z4C:List D->Option D:=z2g 1 5 z6z
def z3h:SS->Option Out:=(z0E (z5j 1 (mkL (z0j [(z0u (z0j []))])))
 (z0E (z4N 2 (z4K (z0b 0)) (z5j 1 (mkL (y3P (z0b 1) (mkL (z1c (z4K (z0b 1)) z5z (z0u (y3P (z0b 3) (mkL (z0j [(z0b 2)]))))))))))
 (z8n (z0b 1))))
def z2h:List D->Option D:=z2g 1 2 z3h
def z1S:SS->Option Out:=(z0E (z4N 2 (z4K (z0b 1)) (z4N 3 (z4K (z0b 1)) (z0E (z6S 4 (z0u (z1c (z4K (z0b 1)) (z3T (z0v (d2 ixD (d2 ixD (z0b 0) (z0b 3)) (z0b 5))) (z0v (d2 ixD (d2 ixD (z0b 0) (z0b 5)) (z0b 2)))) (z0b 5))))
 (ifO (z3T (z0v (d2 ixD (d2 ixD (z0b 0) (z0b 2)) (z0b 3))) (z0D (d2 gtI (z0k z1M [(z0b 4)]) (dC (.int 0))))) (z2N (dC (.bl true))) z0P))))
 (z2N (dC (.bl false))))
def z1p:List D->Option D:=z2g 2 3 z1S
def z3l:SS->Option Out:=(z0E (z6S 2 (z0u (z0j [])))
 (z0E (z4N 3 (z1j (z0k z1M [(z0b 0)])) (ifO (z0D (d2 eqD (z0k z1M [(mkL (z1c (z4K (z0b 1)) (z2B (z0v (d2 ixD (d2 ixD (z0b 0) (z0b 3)) (z0b 4)))) (z0b 4)))]) (dC (.int 0)))) (m0 2 y2q [(z0b 3)]) z0P))
 (y6h 2)))
def z2e:List D->Option D:=z2g 2 2 z3l
def z3i:SS->Option Out:=(z0E (z5j 2 (mkL (z1c (z1j (z0k z1M [(z0b 0)])) (z0v (d2 ixD (d2 ixD (z0b 0) (z0b 1)) (z0b 4))) (z0b 4))))
 (z0E (z4N 3 (z4K (z0k z2h [(z0b 2)])) (ifO (z3T (z2B (z0v (z0k z1p [(z0b 0),(z0b 3)]))) (z0D (d2 eqD (z0k z1M [(z0k z2e [(z0b 0),(mkL (y3P (z0b 3) (mkL (z0j [(z0b 1)]))))])]) (dC (.int 0))))) (z2N (dC (.bl true))) z0P))
 (z2N (dC (.bl false)))))
def z1r:List D->Option D:=z2g 2 2 z3i
def z2f:SS->Option Out:=(z0E (tryO (y0s (z1y z1d [(z0b 0),(z0b 1),(z0b 2)])) (fun c=>match c with | 0=>fun _=>none | 1=>(x0f 3 "BadOrder" (z0E (ifO (z9S (z2B (z0v (d1 (z4z ["BadOrder", "NotTop", "Unknown"] ["BadOrder", "NotTop", "Unknown"]) (z0b 3)))) (z0D (d2 eqD (d1 (z4z ["Unknown"] ["BadOrder", "NotTop", "Unknown"]) (z0b 3)) (d1 (z4z ["BadOrder"] ["BadOrder", "NotTop", "Unknown"]) (z0b 3))))) (z2N (dC (.str "odd"))) z0P)   (z2N (d2 ixD (mkL (z0j [(dC (.str "order")),(dC (.str "unknown"))])) (z0k y4Z [(d1 (z4z ["Unknown"] ["BadOrder", "NotTop", "Unknown"]) (z0b 3))]))))) | 2=>(x0f 3 "NotTop" (z0E (ifO (z9S (z2B (z0v (d1 (z4z ["BadOrder", "NotTop", "Unknown"] ["BadOrder", "NotTop", "Unknown"]) (z0b 3)))) (z0D (d2 eqD (d1 (z4z ["Unknown"] ["BadOrder", "NotTop", "Unknown"]) (z0b 3)) (d1 (z4z ["BadOrder"] ["BadOrder", "NotTop", "Unknown"]) (z0b 3))))) (z2N (dC (.str "odd"))) z0P)   (z2N (d2 ixD (mkL (z0j [(dC (.str "order")),(dC (.str "unknown"))])) (z0k y4Z [(d1 (z4z ["Unknown"] ["BadOrder", "NotTop", "Unknown"]) (z0b 3))]))))) | 3=>(x0f 3 "Unknown" (z0E (ifO (z9S (z2B (z0v (d1 (z4z ["BadOrder", "NotTop", "Unknown"] ["BadOrder", "NotTop", "Unknown"]) (z0b 3)))) (z0D (d2 eqD (d1 (z4z ["Unknown"] ["BadOrder", "NotTop", "Unknown"]) (z0b 3)) (d1 (z4z ["BadOrder"] ["BadOrder", "NotTop", "Unknown"]) (z0b 3))))) (z2N (dC (.str "odd"))) z0P)   (z2N (d2 ixD (mkL (z0j [(dC (.str "order")),(dC (.str "unknown"))])) (z0k y4Z [(d1 (z4z ["Unknown"] ["BadOrder", "NotTop", "Unknown"]) (z0b 3))]))))) | _+4=>fun _=>none))
 (z2N (dC (.str "none"))))
def z0R:List D->Option D:=z2g 3 1 z2f
def z3w:SS->Option Out:=(z0E (ifO (z0D (d2 eqD (z0b 1) (dC (.str "ahead")))) (z8j (z0u (z1c (z1j (z0k z1M [(z0b 0)])) (z0v (z0k z1r [(z0b 0),(z0b 2)])) (z0b 2)))) z0P)
 (z8j (z0k z4C [(z0b 0)])))
def z1X:List D->Option D:=z2g 2 0 z3w
def g_law:SS->Option Out:=(z0E (y0o 1 (d2 y6A (dC (.int 1)) (d2 z3U (z0k z0p [(z0b 0),(dC (.int 0))]) (dC (.int 6)))))
 (z0E (z5j 2 (z0k z2S [(z0b 0),(z0b 1)]))
 (z0E (ifO (z0D (d2 eqD (d2 z3U (d2 z8h (z0k z0p [(z0b 0),(dC (.int 0))]) (dC (.int 432))) (dC (.int 6))) (dC (.int 1)))) (z0E (y0o 1 (dC (.int 7)))
 (z5j 2 (z0k z2Q [(z0k z1B [(z0k z0p [(z0b 0),(dC (.int 1))]),(dC (.int 7))]),(d2 z8h (z0k z0p [(z0b 0),(dC (.int 0))]) (dC (.int 2592)))]))) z0P)
 (z0E (z5j 3 (dFz (z0k z1B [(z0k z0p [(z0b 0),(dC (.int 2))]),(z0b 1)])))
 (z0E (z5j 4 (mkL (z0j [(z0k z1R [(z0b 2)]),(dFz (z0u (z1z z6Q [(z0b 3)])))])))
 (pinO 5 ["plain", "ahead", "rest"] (z0E (z5j 6 (z2l z1d [(d2 ixD (z0b 4) (dC (.int 0))),(z0b 5),(d2 ixD (z0b 4) (dC (.int 1)))]))
 (z0E (z6S 7 (z0k z1X [(z0b 2),(z0b 5)]))
 (z0E (ifO (z9S (z2B (z0v (dIs "tuple" (z0b 6)))) (z9S (z0D (d2 neD (z0k z1M [(z0b 6)]) (dC (.int 2)))) (z2B (z0v (z0k z1w [(d2 ixD (z0b 6) (dC (.int 0)))]))))) (z2N (dC (.bl false))) z0P)
 (z0E (ifO (z9S (z2B (z0v (z0k z1E [(d2 ixD (z0b 6) (dC (.int 1))),(z0b 1)]))) (z0D (d2 neD (z0k z1x [(z0b 2),(z0b 5),(d2 ixD (z0b 6) (dC (.int 1)))]) (d2 ixD (z0b 6) (dC (.int 0)))))) (z2N (dC (.bl false))) z0P)
 (z0E (apT 6 (z0b 1))
 (ifO (z9S (z0D (d2 neD (d2 ixD (z0b 6) (dC (.int 0))) (d2 ixD (mkL (z1c (z4K (z0b 3)) (z0D (d2 inD (z0b 11) (z0b 7))) (z0b 11))) (dC (.int 0))))) (z0D (d2 neD (z0b 4) (mkL (z0j [(z0b 2),(z0b 3)]))))) (z2N (dC (.bl false))) z0P))))))
 (z0E (y0o 5 (d2 ixD (mkL (z0j [(dC (.str "plain")),(dC (.str "ahead")),(dC (.str "rest"))])) (d2 z3U (d2 z8h (z0k z0p [(z0b 0),(dC (.int 0))]) (dC (.int 6))) (dC (.int 3)))))
 (z0E (y0o 8 (d2 ixD (mkL (z0j [(dC (.str "")),(dC (.str "Plain")),(dC (.str "aheads")),(dC (.str "rest ")),(dC (.str "left")),(dC (.str "chair"))])) (d2 z3U (d2 z8h (z0k z0p [(z0b 0),(dC (.int 0))]) (dC (.int 18))) (dC (.int 6)))))
 (z0E (z5j 9 (mkL (z0j [(z0u (z7S (z0b 3) z1a (z2A (d1 x1S (dC (.int 1)))))),(z0u (z7Q (z0b 3) (mkL (z0j [(d2 ixD (z0b 3) (dC (.int 0)))])))),(z0u (z7Q (mkL (z7S (z0b 3) (z2A (dC (.int 1))) z1a)) (mkL (z0j [(z0b 1)])))),(z0u (z0j [])),(z0u (z7Q (mkL (z7S (z0b 3) (z2A (dC (.int 1))) (z2A (dC (.int 2))))) (mkL (z7S (z0b 3) (z2A (dC (.int 1))) z1a)))),(z0u (z7Q (mkL (z0j [(d1 x1S (dC (.int 1)))])) (mkL (z7S (z0b 3) (z2A (dC (.int 1))) z1a))))])))
 (z0E (z5j 10 (d2 ixD (z0b 9) (d2 z3U (d2 z8h (z0k z0p [(z0b 0),(dC (.int 0))]) (dC (.int 108))) (dC (.int 6)))))
 (z0E (ifO (z9S (z0D (d2 neD (z0k z0R [(d2 ixD (z0b 4) (dC (.int 0))),(z0b 5),(mkL (z1z z6Q [(z0b 10)]))]) (dC (.str "order")))) (z0D (d2 neD (z0k z0R [(d2 ixD (z0b 4) (dC (.int 0))),(z0b 8),(mkL (z1z z6Q [(z0b 10)]))]) (dC (.str "unknown"))))) (z2N (dC (.bl false))) z0P)
 (z2N (d2 eqD (z0k z0R [(d2 ixD (z0b 4) (dC (.int 0))),(z0b 8),(dFz (z0u (z1z z6Q [(z0b 3)])))]) (dC (.str "unknown")))))))))))))))
def y5d:List D->Option D:=z2g 1 10 g_law
structure Txt(mg:Str->Option Value):Prop where
 kf:mg "all" = none
 gY:mg "enumerate" = none
 jF:mg "int" = none
 fL:mg "isinstance" = none
 kc:mg "bool" = none
 fM:mg "len" = none
 fN:mg "range" = none
 jW:mg "sorted" = none
 kq:mg "min" = none
 g6:mg "list" = none
 i8:mg "reversed" = none
 iq:mg "ValueError" = none
 ki:mg "tuple" = none
structure Cls(K:aa)(mg:Str->Option Value)(base:Heap)(cl:Nat->Value):Prop where
 j4:∃C,cl 0 = .ref C∧OwnCls "AskError" C x2x "ValueError.__new__" mg base∧aD K mainGlobals "AskError" = some (some (.ref C))∧z5q K C=true
 jO:∃C,cl 1 = .ref C∧OwnCls "BadOrder" C x2x "ValueError.__new__" mg base∧aD K mainGlobals "BadOrder" = some (some (.ref C))∧z5q K C=true
 jX:∃C,cl 2 = .ref C∧OwnCls "NotTop" C x2x "ValueError.__new__" mg base∧aD K mainGlobals "NotTop" = some (some (.ref C))∧z5q K C=true
 jU:∃C,cl 3 = .ref C∧OwnCls "Unknown" C x2x "ValueError.__new__" mg base∧aD K mainGlobals "Unknown" = some (some (.ref C))∧z5q K C=true
 e_BadOrder_AskError:∀C,cl 0 = .ref C->bK K (cl 1) (.ref C)=some true
 fR:∀C,cl 0 = .ref C->bK K (cl 2) (.ref C)=some true
 e_Unknown_AskError:∀C,cl 0 = .ref C->bK K (cl 3) (.ref C)=some true
 gD:∀D,cl 3 = .ref D->∀x,x∈(["BadOrder", "NotTop", "Unknown"]:List Str)->∀C,aD K mainGlobals x=some (some (.ref C))->aN K (.ref C) (.ref D)=some ((["Unknown"]:List Str).contains x)
 ir:∀x,x∈(["BadOrder", "NotTop", "Unknown"]:List Str)->∀C,aD K mainGlobals x=some (some (.ref C))->aN K (.ref C) (.type "ValueError")=some ((["BadOrder", "NotTop", "Unknown"]:List Str).contains x)
 i9:∀D,cl 1 = .ref D->∀x,x∈(["BadOrder", "NotTop", "Unknown"]:List Str)->∀C,aD K mainGlobals x=some (some (.ref C))->aN K (.ref C) (.ref D)=some ((["BadOrder"]:List Str).contains x)
section
variable{P:fw}{w:fx}{K:aa}{mg:Str->Option Value}{base:Heap}{cl:Nat->Value}
theorem y0N:FnScope y2h z7h (z0g z5e):=z0Q
theorem y1l(B:FnB K mg "beats_all" z5e z7h)(T:Txt mg):DefOk P w K mg base 1 "beats_all" (spN K z1v):=
 B.on fun F hm hb=>z4P (k:=0) (g:=z5h) F hm hb y0N rfl rfl fun cdv A outer s H E hr=>
  (z0h (z0O (x3N rfl rfl T.kf (z1Z (z1Y (N':=["table", "one", "things", "other"])  rfl ⟨rfl,rfl,rfl,rfl,rfl⟩ (n:=3) rfl (z0H (z0e 2 (pv 2))) (fun _ _ _ _ _=>z0l (i:=3) nd0 rfl ∅) (fun _ _ _ _ _=>z1i) (fun _ _ _ _ _=>(z0t (z0t (z0e 0 (pv 0)) (z0e 1 (pv 1))) (z0e 3 (pv 3)))))))))
theorem z8l:FnScope z9R z5I (z0g z3B):=z0Q
theorem z8C(B:FnB K mg "places_true" z3B z5I)(T:Txt mg):DefOk P w K mg base 1 "places_true" (spN K z2x):=
 B.on fun F hm hb=>z4P (k:=0) (g:=z3P) F hm hb z8l rfl rfl fun cdv A outer s H E hr=>
  (z0h (z2m (z3V (z9q (N':=["marks", "place", "mark"])  rfl ⟨rfl,rfl,rfl,rfl,rfl⟩ (n:=1) rfl (z7e rfl T.gY (z0e 0 (pv 0))) (fun _ _ _ _ _=>y7k rfl (z0l (i:=1) nd1 rfl ∅) (z0l (i:=2) nd1 rfl ∅)) (fun _ _ _ _ _=>z0N (z0n (z0e 2 (pv 2)))) (fun _ _ _ _ _=>(z0e 1 (pv 1)))))))
theorem y1i:FnScope y2G z7n (z0g z5v):=z0Q
theorem y1m(B:FnB K mg "beaten_by" z5v z7n)(T:Txt mg)(g7:DefOk P w K mg base 1 "places_true" (spN K z2x)):DefOk P w K mg base 2 "beaten_by" (spN K z1u):=
 B.on fun F hm hb=>z4P (k:=1) (g:=z5f) F hm hb y1i rfl rfl fun cdv A outer s H E hr=>
  (z0h (z2m (z0m g7 (hr.mono nofun) rfl (z0a (z0t (z0e 0 (pv 0)) (z0e 1 (pv 1))) z0d))))
theorem y3i:FnScope y5F z8I (z0g z6f):=z0Q
theorem y2m(B:FnB K mg "is_thing" z6f z8I)(T:Txt mg):DefOk P w K mg base 1 "is_thing" (spN K z2G):=
 B.on fun F hm hb=>z4P (k:=0) (g:=z4H) F hm hb y3i rfl rfl fun cdv A outer s H E hr=>
  (z0h (z0O (y4v (y4N rfl T.jF rfl T.fL (z0e 0 (pv 0))) (y4v (x2T (y1t rfl T.kc rfl T.fL (z0e 0 (pv 0)))) (y8c (x1C op_le op_lt z7a z7a z0i (z0e 0 (pv 0)) (z0e 1 (pv 1))))))))
theorem ge:FnScope z6h z3t (z0g z1V):=z0Q
theorem z5V(B:FnB K mg "tells_each_once" z1V z3t)(T:Txt mg)(ja:DefOk P w K mg base 1 "is_thing" (spN K z2G)):DefOk P w K mg base 2 "tells_each_once" (spN K z0Y):=
 B.on fun F hm hb=>z4P (k:=1) (g:=z0T) F hm hb ge rfl rfl fun cdv A outer s H E hr=>
  (z0f (z3x (y0k hr.units (z0J rfl T.fM (z0e 0 (pv 0))) (z0e 1 (pv 1))) (z0h (z0O z3c)) z0I)
   (z0f (z1I (z0L (i:=2) ge.nd rfl ∅ pn_dnew))
   (z0f (z1H PassesOwn.never rfl (z0H (z0e 0 (pv 0))) (z0l (i:=3) ge.nd rfl ∅) (z0f (z3x (PW.pt (z4g (z1t (z0n (z2D (z0m ja (hr.mono nofun) rfl (z0a (z0e 3 (pv 3)) (z0a (z0e 1 (pv 1)) z0d)))))) (z3a (pt_din hr.units (z0e 3 (pv 3)) (z0e 2 (pv 2)))))) (z0h (z0O z3c)) z0I)
   (z0h (x3b hr.units (pv 2) (z0e 3 (pv 3)) z3c))))
   (z0h (z0O z3c)))))
theorem z8B:FnScope y0j z3Q (z0g z3G):=z0Q
theorem z8x(B:FnB K mg "order_asked" z3G z3Q)(T:Txt mg)(Z:Cls K mg base cl)(gq:DefOk P w K mg base 2 "tells_each_once" (spN K z0Y)):DefX P w K mg base 3 "order_asked" (spX K cl z1K):=by
 obtain⟨C_BadOrder,hc_BadOrder,gG,jG,fZ⟩:=Z.jO
 exact B.on fun F hm hb=>⟨_,_,z3Q,hm,F.kp,hb,fnX (k:=2) (g:=z2C) F z8B rfl rfl fun cdv A outer s H E hr=>
  (z0h (z3x (PW.pt (z4g (z3C hr.units (z0e 1 (pv 1)) z0i) (z3a (z1t (z0n (z2D (z0m gq (hr.mono nofun) rfl (z0a (z0e 0 (pv 0)) (z0a (z0e 1 (pv 1)) z0d))))))))) (z0h (z9p (c:=1) rfl rfl gG (z9x hc_BadOrder) z0F)) z0I))⟩
theorem y2U:FnScope y5n z8H (z0g z6y):=z0Q
theorem y3l(B:FnB K mg "is_chain" z6y z8H)(T:Txt mg)(G_beats_all:DefOk P w K mg base 1 "beats_all" (spN K z1v)):DefOk P w K mg base 2 "is_chain" (spN K z4F):=
 B.on fun F hm hb=>z4P (k:=1) (g:=z4L) F hm hb y2U rfl rfl fun cdv A outer s H E hr=>
  (z0f (z3x (z3C hr.units (z0J rfl T.fM (z0e 1 (pv 1))) z0i) (z0h (z0O z3c)) z0I)
   (z0h (z0O (x3N rfl rfl T.kf (z1Z (z9q (N':=["table", "things", "place", "one"])  rfl ⟨rfl,rfl,rfl,rfl,rfl⟩ (n:=2) rfl (z7e rfl T.gY (z0e 1 (pv 1))) (fun _ _ _ _ _=>y7k rfl (z0l (i:=2) nd2 rfl ∅) (z0l (i:=3) nd2 rfl ∅)) (fun _ _ _ _ _=>z1i) (fun _ _ _ _ _=>(z2D (z0m G_beats_all (hr.mono nofun) rfl (z0a (z0e 0 (pv 0)) (z0a (z0e 3 (pv 3)) (z0a (z1Z (z1f (z0e 1 (pv 1)) (z0Z (z5L (z0e 2 (pv 2)) z0i)) z1n)) z0d))))))))))))
theorem y5h:FnScope y7l y0J (z0g z7I):=z0Q
theorem y6d(B:FnB K mg "beaters" z7I y0J)(T:Txt mg)(G_beats_all:DefOk P w K mg base 1 "beats_all" (spN K z1v)):DefOk P w K mg base 2 "beaters" (spN K z2K):=
 B.on fun F hm hb=>z4P (k:=1) (g:=z8e) F hm hb y5h rfl rfl fun cdv A outer s H E hr=>
  (z0h (z2m (z3V (z1Y (N':=["table", "things", "one"])  rfl ⟨rfl,rfl,rfl,rfl,rfl⟩ (n:=2) rfl (z0V rfl T.fN (z0J rfl T.fM (z0e 0 (pv 0)))) (fun _ _ _ _ _=>z0l (i:=2) nd3 rfl ∅) (fun _ _ _ _ _=>z0N (z0n (z2D (z0m G_beats_all (hr.mono nofun) rfl (z0a (z0e 0 (pv 0)) (z0a (z0e 2 (pv 2)) (z0a (z0e 1 (pv 1)) z0d))))))) (fun _ _ _ _ _=>(z0e 2 (pv 2)))))))
theorem y9F:FnScope x1F y4F (z0g z9K):=z0Q
theorem y6K(B:FnB K mg "stands" z9K y4F)(T:Txt mg)(jb:DefOk P w K mg base 2 "is_chain" (spN K z4F))(gE:DefOk P w K mg base 2 "beaters" (spN K z2K)):DefOk P w K mg base 3 "stands" (spN K z5C):=
 B.on fun F hm hb=>z4P (k:=2) (g:=y0m) F hm hb y9F rfl rfl fun cdv A outer s H E hr=>
  (z0h (z0O (y4v (z2D (z0m jb (hr.mono nofun) rfl (z0a (z0e 0 (pv 0)) (z0a (z0e 1 (pv 1)) z0d)))) (y8c (y5V hr.units (z0J rfl T.fM (z2D (z0m gE (hr.mono nofun) rfl (z0a (z0e 0 (pv 0)) (z0a (z0e 1 (pv 1)) z0d))))) z0i)))))
theorem f9:FnScope z8A z3j (z0g z2k):=z0Q
theorem z3S(B:FnB K mg "ended_chains" z2k z3j)(T:Txt mg):∀n:Nat,DefOk P w K mg base (1+n) "ended_chains" (spM2 K (z1k n))
 |0=>B.on fun F hm hb=>defM2 (k:=0) (g:=fun _=>none) F hm hb f9 rfl rfl fun cdv A outer s H H0 E hr=>x1q
 |n+1=>by
  have G_ended_chains:=z3S B T n
  exact B.on fun F hm hb=>defM2 (k:=1+n) (g:=z2i (z1k n)) F hm hb f9 rfl rfl fun cdv A outer s H H0 E hr=>
  (z0f (z3x (z1t (z0n (z0e 2 (pv 2)))) (z0h (s_ret1 (pv 1))) z0I)
   (z0f (z1I (z0L (i:=3) f9.nd rfl ∅ (z3V (z0x z0d (bU rfl)))))
   (z0f (z1H PassesOwn.never rfl (z0H (z0e 2 (pv 2))) (z0l (i:=4) f9.nd rfl (Or.inr rfl)) (z0h (y7r (pv 3) (y1e G_ended_chains (hr.mono ⋯) rfl (z0e 0 (pv 0)) (z3V (z5N (z0e 1 (pv 1)) (z1Z (z0x (z0a (z0e 4 (pv 4)) z0d) (bU rfl))))) (z0a (z1Z (z1Y (N':=["table", "chain", "further", "chains", "thing", "other"])  rfl ⟨rfl,rfl,rfl,rfl,rfl⟩ (n:=5) rfl (z0H (z0e 2 (pv 2))) (fun _ _ _ _ _=>z0l (i:=5) nd4 rfl ∅) (fun _ _ _ _ _=>z0N (z0n (z0t (z0t (z0e 0 (pv 0)) (z0e 4 (pv 4))) (z0e 5 (pv 5))))) (fun _ _ _ _ _=>(z0e 5 (pv 5))))) z0d)))))
   (z0h (z6F (pv 3))))))
theorem z7f(B:FnB K mg "ended_chains" z2k z3j)(T:Txt mg):DefOk P w K mg base 13 "ended_chains" (spM2 K z2c):=z3S B T 12
theorem gN:FnScope y0l z5B (z0g z3A):=z0Q
theorem z8o(B:FnB K mg "crown_paper" z3A z5B)(T:Txt mg)(G_beaten_by:DefOk P w K mg base 2 "beaten_by" (spN K z1u))(gE:DefOk P w K mg base 2 "beaters" (spN K z2K))(jI:DefOk P w K mg base 3 "stands" (spN K z5C))(G_ended_chains:DefOk P w K mg base 13 "ended_chains" (spM2 K z2c)):DefOk P w K mg base 14 "crown_paper" (spR K z2y):=
 B.on fun F hm hb=>defR (k:=13) (g:=z3J) F hm hb gN rfl rfl fun cdv A outer s H E B hr=>
  (z0f (z1g (z0L (i:=2) gN.nd rfl ∅ (z2D (y1e G_ended_chains (hr.mono nofun) rfl (z0e 0 (pv 0)) (z3V (z0x (z0a (z0e 1 (pv 1)) z0d))) (z0a (z2D (z0m G_beaten_by (hr.mono nofun) rfl (z0a (z0e 0 (pv 0)) (z0a (z0e 1 (pv 1)) z0d)))) z0d)))))
   (z0f (z1H PassesOwn.never rfl (z0H (z0e 2 (pv 2))) (z0l (i:=3) gN.nd rfl ∅) (z0h (z3x (z0n (z2D (z0m jI (hr.mono nofun) rfl (z0a (z0e 0 (pv 0)) (z0a (z0e 3 (pv 3)) z0d))))) (z0h (z2o (z1J (z0a z0F (z0a (z0e 3 (pv 3)) z0d))))) z0I)))
   (z0h (z2o (z1J (z0a z0F (z0a (z1Z (z1Y (N':=["table", "thing", "chains", "3", "chain"])  rfl ⟨rfl,rfl,rfl,rfl,rfl⟩ (n:=4) rfl (z0H (z0e 2 (pv 2))) (fun _ _ _ _ _=>z0l (i:=4) nd5 rfl ∅) (fun _ _ _ _ _=>z1i) (fun _ _ _ _ _=>(z1J (z0a (z0e 4 (pv 4)) (z0a (z0t (z2D (z0m gE (hr.mono nofun) rfl (z0a (z0e 0 (pv 0)) (z0a (z0e 4 (pv 4)) z0d)))) z0i) z0d)))))) z0d)))))))
theorem fQ:FnScope y1R z6L (z0g z4q):=z0Q
theorem z9b(B:FnB K mg "steps_from" z4q z6L)(T:Txt mg)(G_beaten_by:DefOk P w K mg base 2 "beaten_by" (spN K z1u)):DefOk P w K mg base 3 "steps_from" (spN K z2X):=
 B.on fun F hm hb=>z4P (k:=2) (g:=z4y) F hm hb fQ rfl rfl fun cdv A outer s H E hr=>
  (z0f (z1I (z0L (i:=2) fQ.nd rfl ∅ (x1m (z0e 1 (pv 1)) (z0e 1 (pv 1)))))
   (z0f (z1I (z0L (i:=3) fQ.nd rfl ∅ (z3V (z0x (z0a (z0e 1 (pv 1)) z0d)))))
   (z0f (y8h 100 PassesOwn.never (z0n (z0e 3 (pv 3))) (z0f (z1I (z0L (i:=4) fQ.nd rfl ∅ (z3V (z0x z0d))))
   (z0f (s_frz 3 (z1H PassesOwn.never rfl (z0H (z0e 3 (pv 3))) (z0l (i:=5) fQ.nd rfl ∅) (z0h (z1H PassesOwn.never rfl (z0H (z2D (z0m G_beaten_by (hr.mono nofun) rfl (z0a (z0e 0 (pv 0)) (z0a (z0e 5 (pv 5)) z0d))))) (z0l (i:=6) fQ.nd rfl ∅) (z0h (z3x (pt_dnin hr.units (z0e 6 (pv 6)) (z0e 2 (pv 2))) (z0f (x3b hr.units (pv 2) (z0e 6 (pv 6)) (z0e 5 (pv 5)))
   (z0h (x1R PySem.F.slot_list_append PySem.F.type_list_append z1F z2L (pv 4) (z0a (z0e 6 (pv 6)) z0d)))) z0I))))))
   (z0h (s_mov nofun (z0L (i:=3) fQ.nd rfl ∅ (pv 4)))))))
   (z0h (z6F (pv 2))))))
theorem y5Q:FnScope y7M y0K (z0g z7P):=z0Q
theorem y5Z(B:FnB K mg "reached" z7P y0K)(T:Txt mg)(iw:DefOk P w K mg base 3 "steps_from" (spN K z2X)):DefOk P w K mg base 4 "reached" (spN K z4i):=
 B.on fun F hm hb=>z4P (k:=3) (g:=z7M) F hm hb y5Q rfl rfl fun cdv A outer s H E hr=>
  (z0h (z2m (z3V (y5y rfl rfl T.jW (z2D (z0m iw (hr.mono nofun) rfl (z0a (z0e 0 (pv 0)) (z0a (z0e 1 (pv 1)) z0d))))))))
theorem z8D:FnScope y0d z5T (z0g z3R):=z0Q
theorem z8r(B:FnB K mg "places_with" z3R z5T)(T:Txt mg):DefOk P w K mg base 1 "places_with" (spN K z1L):=
 B.on fun F hm hb=>z4P (k:=0) (g:=z3O) F hm hb z8D rfl rfl fun cdv A outer s H E hr=>
  (z0h (z2m (z3V (z9q (N':=["counts", "wanted", "place", "count"])  rfl ⟨rfl,rfl,rfl,rfl,rfl⟩ (n:=2) rfl (z7e rfl T.gY (z0e 0 (pv 0))) (fun _ _ _ _ _=>y7k rfl (z0l (i:=2) nd6 rfl ∅) (z0l (i:=3) nd6 rfl ∅)) (fun _ _ _ _ _=>z0N (z3C hr.units (z0e 3 (pv 3)) (z0e 1 (pv 1)))) (fun _ _ _ _ _=>(z0e 2 (pv 2)))))))
theorem jY:FnScope kh y8B (z0g y2N):=z0Q
theorem x0T(B:FnB K mg "rings" y2N y8B)(T:Txt mg)(jy:DefOk P w K mg base 4 "reached" (spN K z4i))(g8:DefOk P w K mg base 1 "places_with" (spN K z1L)):DefOk P w K mg base 5 "rings" (spN K z5Z):=
 B.on fun F hm hb=>z4P (k:=4) (g:=y2g) F hm hb jY rfl rfl fun cdv A outer s H E hr=>
  (z0f (z1I (z0L (i:=1) jY.nd rfl (Or.inr rfl) (z3V (z1Y (N':=["table", "counts", "one"])  rfl ⟨rfl,rfl,rfl,rfl,rfl⟩ (n:=2) rfl (z0V rfl T.fN (z0J rfl T.fM (z0e 0 (pv 0)))) (fun _ _ _ _ _=>z0l (i:=2) nd8 rfl ∅) (fun _ _ _ _ _=>z1i) (fun _ _ _ _ _=>(z0J rfl T.fM (z2D (z0m jy (hr.mono nofun) rfl (z0a (z0e 0 (pv 0)) (z0a (z0e 2 (pv 2)) z0d))))))))))
   (z0h (z2m (y2O (N':=["table", "counts", "count"])  rfl ⟨rfl,rfl,rfl,rfl,rfl⟩ (n:=2) rfl (pi_rngN rfl T.fN (z0J rfl T.fM (z0e 0 (pv 0))) z0i (y3q z0i)) (fun _ _ _ _ _=>z0l (i:=2) nd7 rfl ∅) (fun _ _ _ _ _=>z0N (pt_in hr.units (z0e 2 (pv 2)) (z0e 1 (pv 1)))) (fun _ _ _ _ _=>(z0m g8 (hr.mono nofun) rfl (z0a (z0e 1 (pv 1)) (z0a (z0e 2 (pv 2)) z0d))))))))
theorem y2z:FnScope y5N z8S (z0g z6n):=z0Q
theorem y2L(B:FnB K mg "top_ring" z6n z8S)(T:Txt mg)(ij:DefOk P w K mg base 5 "rings" (spN K z5Z)):DefOk P w K mg base 6 "top_ring" (spN K z2E):=
 B.on fun F hm hb=>z4P (k:=5) (g:=z6x) F hm hb y2z rfl rfl fun cdv A outer s H E hr=>
  (z0h (z2m (pn_ixN (z0m ij (hr.mono nofun) rfl (z0a (z0e 0 (pv 0)) z0d)) z0i)))
theorem jx:FnScope y0X z6P (z0g z4o):=z0Q
theorem z9c(B:FnB K mg "begun_with" z4o z6P)(T:Txt mg):DefOk P w K mg base 1 "begun_with" (spN K z2W):=
 B.on fun F hm hb=>z4P (k:=0) (g:=z3W) F hm hb jx rfl rfl fun cdv A outer s H E hr=>
  (z0f (z2U (z0L (i:=2) jx.nd rfl ∅ (y8S (z0e 0 (pv 0)) (z0e 1 (pv 1)))))
   (z0h (z2m (z3V (z5N (z1Z (z1f (z0e 0 (pv 0)) (z0Z (z0e 2 (pv 2))) z1n)) (z1Z (z1f (z0e 0 (pv 0)) z1n (z0Z (z0e 2 (pv 2))))))))))
theorem iP:FnScope x0C y4I (z0g z9h):=z0Q
theorem y8W(B:FnB K mg "detour" z9h y4I)(T:Txt mg):DefOk P w K mg base 1 "detour" (spN K z5A):=
 B.on fun F hm hb=>z4P (k:=0) (g:=y0f) F hm hb iP rfl rfl fun cdv A outer s H E hr=>
  (z0f (z1H PassesOwn.never rfl (z0H (z0e 3 (pv 3))) (z0l (i:=4) iP.nd rfl ∅) (z0h (z3x (PW.pt (z4c (z0n (z0t (z0t (z0e 0 (pv 0)) (z0e 1 (pv 1))) (z0e 4 (pv 4)))) (z3D (z0n (z0t (z0t (z0e 0 (pv 0)) (z0e 4 (pv 4))) (z0e 2 (pv 2))))))) (z0h (z2m (z3V (z0x (z0a (z0e 4 (pv 4)) z0d))))) z0I)))
   (z0f (z1H PassesOwn.never rfl (z0H (z0e 3 (pv 3))) (z0l (i:=4) iP.nd rfl ∅) (z0h (z1H PassesOwn.never rfl (z0H (z0e 3 (pv 3))) (z0l (i:=5) iP.nd rfl ∅) (z0h (z3x (PW.pt (z4c (z0n (z0t (z0t (z0e 0 (pv 0)) (z0e 1 (pv 1))) (z0e 4 (pv 4)))) (z4c (z0n (z0t (z0t (z0e 0 (pv 0)) (z0e 4 (pv 4))) (z0e 5 (pv 5)))) (z3D (z0n (z0t (z0t (z0e 0 (pv 0)) (z0e 5 (pv 5))) (z0e 2 (pv 2)))))))) (z0h (z2m (z3V (z0x (z0a (z0e 4 (pv 4)) (z0a (z0e 5 (pv 5)) z0d)))))) z0I)))))
   (z0h (z2m (z3V (z0x z0d))))))
theorem gj:FnScope y6S y0T (z0g z7v):=z0Q
theorem y5j(B:FnB K mg "widened" z7v y0T)(T:Txt mg)(jJ:DefOk P w K mg base 1 "detour" (spN K z5A)):DefOk P w K mg base 2 "widened" (spR K z3s):=
 B.on fun F hm hb=>defR (k:=1) (g:=z7G) F hm hb gj rfl rfl fun cdv A outer s H E B hr=>
  (z0f (z1g (PAsg.imp (y1E (i:=3) (N':=["table", "circle", "ring", "left", "place", "here", "behind", "between", "thing"]) gj.nd rfl rfl rfl ⟨rfl,rfl,rfl,rfl,rfl⟩ (n:=8) rfl (z0H (z0e 2 (pv 2))) (fun _ _ _ _ _=>z0l (i:=8) nd9 rfl ∅) (fun _ _ _ _ _=>z0N (y1s hr.units (z0e 8 (pv 8)) (z0e 1 (pv 1)))) (fun _ _ _ _ _=>(z0e 8 (pv 8)))) iDF))
   (z0f (x3j PassesOwn.never rfl (z7e rfl T.gY (z0e 1 (pv 1))) (y7G rfl (z0l (i:=4) gj.nd rfl ∅) (z0l (i:=5) gj.nd rfl ∅)) (z0f (z2U (z0L (i:=6) gj.nd rfl ∅ (z0t (z0e 1 (pv 1)) (z1P (z5L (z0e 4 (pv 4)) z0i) (z0J rfl T.fM (z0e 1 (pv 1)))))))
   (z0f (z1g (z0L (i:=7) gj.nd rfl ∅ (z2D (z0m jJ (hr.mono nofun) rfl (z0a (z0e 0 (pv 0)) (z0a (z0e 5 (pv 5)) (z0a (z0e 6 (pv 6)) (z0a (z0e 3 (pv 3)) z0d))))))))
   (z0h (z3x (z0n (z0e 7 (pv 7))) (z0h (z2o (z1Z (z5N (z1Z (z5N (z1Z (z1f (z0e 1 (pv 1)) z1n (z0Z (z5L (z0e 4 (pv 4)) z0i)))) (z0e 7 (pv 7)))) (z1Z (z1f (z0e 1 (pv 1)) (z0Z (z5L (z0e 4 (pv 4)) z0i)) z1n)))))) z0I)))))
   (z0h (z2o (z0e 1 (pv 1))))))
theorem gy:FnScope y5b z8V (z0g z6l):=z0Q
theorem y2E(B:FnB K mg "round_of" z6l z8V)(T:Txt mg)(iQ:DefOk P w K mg base 2 "widened" (spR K z3s)):DefOk P w K mg base 3 "round_of" (spR K z2F):=
 B.on fun F hm hb=>defR (k:=2) (g:=z6a) F hm hb gy rfl rfl fun cdv A outer s H E B hr=>
  (z0f (z1g (z0L (i:=2) gy.nd rfl ∅ (z1Z (z0x (z0a (pd_minL rfl rfl T.kq (z0e 1 (pv 1))) z0d)))))
   (z0f (z1g (z0L (i:=3) gy.nd rfl ∅ (z2v iQ (hr.mono nofun) rfl (z0a (z0e 0 (pv 0)) (z0a (z0e 2 (pv 2)) (z0a (z0e 1 (pv 1)) z0d))))))
   (z0f (y8h 100 PassesOwn.never (x1h (z0J rfl T.fM (z0e 3 (pv 3))) (z0J rfl T.fM (z0e 2 (pv 2)))) (z0f (z1g (z0L (i:=2) gy.nd rfl ∅ (z0e 3 (pv 3))))
   (z0h (z1g (z0L (i:=3) gy.nd rfl ∅ (z2v iQ (hr.mono nofun) rfl (z0a (z0e 0 (pv 0)) (z0a (z0e 2 (pv 2)) (z0a (z0e 1 (pv 1)) z0d)))))))))
   (z0h (z2o (z0e 2 (pv 2)))))))
theorem gZ:FnScope y5p z6o (z0g z6d):=z0Q
theorem y3k(B:FnB K mg "row_from" z6d z6o)(T:Txt mg)(Z:Cls K mg base cl)(ij:DefOk P w K mg base 5 "rings" (spN K z5Z))(iy:DefOk P w K mg base 1 "begun_with" (spN K z2W))(ic:DefOk P w K mg base 3 "round_of" (spR K z2F)):DefX P w K mg base 6 "row_from" (spX K cl z1Q):=by
 obtain⟨C_NotTop,iR,jZ,jV,gF⟩:=Z.jX
 exact B.on fun F hm hb=>⟨_,_,z6o,hm,F.kp,hb,fnX (k:=5) (g:=z6B) F gZ rfl rfl fun cdv A outer s H E hr=>
  (z0f (z1g (z0L (i:=2) gZ.nd rfl ∅ (z2D (z0m ij (hr.mono nofun) rfl (z0a (z0e 0 (pv 0)) z0d)))))
   (z0f (z3x (y1s hr.units (z0e 1 (pv 1)) (z0t (z0e 2 (pv 2)) z0i)) (z0h (z9p (c:=2) rfl rfl jZ (z9x iR) z0F)) z0I)
   (z0f (z1I (z0L (i:=3) gZ.nd rfl ∅ (z0m iy (hr.mono nofun) rfl (z0a (z2v ic (hr.mono nofun) rfl (z0a (z0e 0 (pv 0)) (z0a (z0t (z0e 2 (pv 2)) z0i) z0d))) (z0a (z0e 1 (pv 1)) z0d)))))
   (z0f (z1H PassesOwn.leaving rfl (z0H (z1Z (z1f (z0e 2 (pv 2)) (z0Z z0i) z1n))) (z0l (i:=4) gZ.nd rfl ∅) (z0h (y8J (pv 3) (z2v ic (hr.mono nofun) rfl (z0a (z0e 0 (pv 0)) (z0a (z0e 4 (pv 4)) z0d))))))
   (z0h (z6F (pv 3)))))))⟩
theorem jH:FnScope y5P z8K (z0g z6i):=z0Q
theorem y2j(B:FnB K mg "to_stand" z6i z8K)(T:Txt mg)(Z:Cls K mg base cl)(gl:DefOk P w K mg base 6 "top_ring" (spN K z2E))(gm:DefX P w K mg base 6 "row_from" (spX K cl z1Q)):DefOk P w K mg base 7 "to_stand" (spR K z3q):=
 B.on fun F hm hb=>defR (k:=6) (g:=z4G) F hm hb jH rfl rfl fun cdv A outer s H E B hr=>
  (z0f (z1g (z0L (i:=2) jH.nd rfl ∅ (z2D (z0m gl (hr.mono nofun) rfl (z0a (z0e 0 (pv 0)) z0d)))))
   (z0f (z3x (y1s hr.units (z0e 1 (pv 1)) (z0e 2 (pv 2))) (z0h (z2o (z1J (z0a z0F (z0a (z0e 2 (pv 2)) z0d))))) z0I)
   (z0h (z2o (z1J (z0a z0F (z0a (z1Z (y5x rfl rfl T.g6 rfl T.i8 (z2D (y4P gm (hr.mono nofun) rfl (z0a (z0e 0 (pv 0)) (z0a (z0e 1 (pv 1)) z0d)))))) z0d)))))))
theorem g0:FnScope y4W z8Y (z0g z6u):=z0Q
theorem y2S(B:FnB K mg "to_crown" z6u z8Y)(T:Txt mg)(g9:DefOk P w K mg base 14 "crown_paper" (spR K z2y)):DefOk P w K mg base 15 "to_crown" (spR K z3u):=
 B.on fun F hm hb=>defR (k:=14) (g:=z4E) F hm hb g0 rfl rfl fun cdv A outer s H E B hr=>
  (z0f (z1g (z0L (i:=2) g0.nd rfl ∅ (z2v g9 (hr.mono nofun) rfl (z0a (z0e 0 (pv 0)) (z0a (z0e 1 (pv 1)) z0d)))))
   (z0f (z3x (z3C hr.units (z0t (z0e 2 (pv 2)) z0i) z0F) (z0h (z2o (z0e 2 (pv 2)))) z0I)
   (z0f (z1g (z0L (i:=3) g0.nd rfl (Or.inr rfl) (z0t (z0e 2 (pv 2)) z0i)))
   (z0f (z1g (PAsg.imp (y1E (i:=4) (N':=["table", "thing", "paper", "chain", "others", "other"]) g0.nd rfl rfl rfl ⟨rfl,rfl,rfl,rfl,rfl⟩ (n:=5) rfl (z0V rfl T.fN (z0J rfl T.fM (z0e 0 (pv 0)))) (fun _ _ _ _ _=>z0l (i:=5) nd10 rfl ∅) (fun _ _ _ _ _=>z0N (y1s hr.units (z0e 5 (pv 5)) (z0e 3 (pv 3)))) (fun _ _ _ _ _=>(z0e 5 (pv 5)))) iDF))
   (z0h (z2o (z1J (z0a z0F (z0a (z1Z (z5N (z0e 4 (pv 4)) (z0e 3 (pv 3)))) (z0a (z0e 3 (pv 3)) z0d))))))))))
theorem jP:FnScope y8l y0Q (z0g z7z):=z0Q
theorem y5u(B:FnB K mg "to_rest" z7z y0Q)(T:Txt mg)(Z:Cls K mg base cl)(gl:DefOk P w K mg base 6 "top_ring" (spN K z2E))(gm:DefX P w K mg base 6 "row_from" (spX K cl z1Q)):DefOk P w K mg base 7 "to_rest" (spR K z3Z):=
 B.on fun F hm hb=>defR (k:=6) (g:=z5R) F hm hb jP rfl rfl fun cdv A outer s H E B hr=>
  (z0f (z1g (z0L (i:=2) jP.nd rfl ∅ (z2D (z0m gl (hr.mono nofun) rfl (z0a (z0e 0 (pv 0)) z0d)))))
   (z0f (z3x (y1s hr.units (z0e 1 (pv 1)) (z0e 2 (pv 2))) (z0h (z2o (z1J (z0a z0F (z0a (z0e 2 (pv 2)) z0d))))) z0I)
   (z0h (z2o (z1J (z0a z0F (z0a (z2D (y4P gm (hr.mono nofun) rfl (z0a (z0e 0 (pv 0)) (z0a (z0e 1 (pv 1)) z0d)))) z0d)))))))
theorem y1H:FnScope y2v z5s (z0g z5w):=z0Q
theorem y1K(B:FnB K mg "paper_for" z5w z5s)(T:Txt mg)(Z:Cls K mg base cl)(jc:DefOk P w K mg base 7 "to_stand" (spR K z3q))(jd:DefOk P w K mg base 15 "to_crown" (spR K z3u))(jz:DefOk P w K mg base 7 "to_rest" (spR K z3Z)):DefX P w K mg base 16 "paper_for" (x0o K cl z0o):=by
 obtain⟨C_Unknown,hc_Unknown,fW,jQ,gn⟩:=Z.jU
 exact B.on fun F hm hb=>⟨_,_,z5s,hm,F.kp,hb,fnXS (k:=15) (g:=z1b) F y1H rfl rfl fun cdv A outer s H E B hr=>
  (z0f (z3x (z3C hr.units (z0e 1 (pv 1)) z0F) (z0h (z2o (z2v jc (hr.mono nofun) rfl (z0a (z0e 0 (pv 0)) (z0a (z0e 2 (pv 2)) z0d))))) z0I)
   (z0f (z3x (z3C hr.units (z0e 1 (pv 1)) z0F) (z0h (z2o (z2v jd (hr.mono nofun) rfl (z0a (z0e 0 (pv 0)) (z0a (z0e 2 (pv 2)) z0d))))) z0I)
   (z0f (z3x (z3C hr.units (z0e 1 (pv 1)) z0F) (z0h (z2o (z2v jz (hr.mono nofun) rfl (z0a (z0e 0 (pv 0)) (z0a (z0e 2 (pv 2)) z0d))))) z0I)
   (z0h (z9p (c:=3) rfl rfl fW (z9x hc_Unknown) z0F)))))⟩
theorem iz:FnScope y3d z5d (z0g z5g):=z0Q
theorem y0I(B:FnB K mg "orders_to" z5g z5d)(T:Txt mg)(Z:Cls K mg base cl)(g4:DefX P w K mg base 16 "paper_for" (x0o K cl z0o)):DefX P w K mg base 17 "orders_to" (x0o K cl z1m):=by
 exact B.on fun F hm hb=>⟨_,_,z5d,hm,F.kp,hb,fnXS (k:=16) (g:=z3z) F iz rfl rfl fun cdv A outer s H E B hr=>
  (z0f (s_or (z1g (PAsg.imp (y1E (i:=2) (N':=["table", "kind", "papers", "thing"]) iz.nd rfl rfl rfl ⟨rfl,rfl,rfl,rfl,rfl⟩ (n:=3) rfl (z0V rfl T.fN (z0J rfl T.fM (z0e 0 (pv 0)))) (fun _ _ _ _ _=>z0l (i:=3) nd12 rfl ∅) (fun _ _ _ _ _=>z1i) (fun _ _ _ _ _=>(y0y g4 (hr.mono nofun) rfl (z0a (z0e 0 (pv 0)) (z0a (z0e 1 (pv 1)) (z0a (z0e 3 (pv 3)) z0d)))))) iDF)) (s_asgCE (i:=2) (N':=["table", "kind", "papers", "thing"]) rfl ⟨_,rfl⟩ xl_def iz.nd rfl rfl rfl ⟨rfl,rfl,rfl,rfl,rfl⟩ (n:=3) rfl (z0V rfl T.fN (z0J rfl T.fM (z0e 0 (pv 0)))) (fun _ _ _ _ _=>z0l (i:=3) nd12 rfl ∅) (fun _ _ _ _ _=>z1i) (fun _ _ _ _ _ hw=>(z6U g4 (hr.mono nofun) rfl hw (z0a (z0e 0 (pv 0)) (z0a (z0e 1 (pv 1)) (z0a (z0e 3 (pv 3)) z0d)))))))
   (z0h (z2o (z1Z (z1Y (N':=["table", "kind", "papers", "paper"])  rfl ⟨rfl,rfl,rfl,rfl,rfl⟩ (n:=3) rfl (z0H (z0e 2 (pv 2))) (fun _ _ _ _ _=>z0l (i:=3) nd11 rfl ∅) (fun _ _ _ _ _=>z1i) (fun _ _ _ _ _=>(pd_if (z3C hr.units (z0t (z0e 3 (pv 3)) z0i) z0F) (z0t (z0e 3 (pv 3)) z0i) pd_non)))))))⟩
theorem iS:FnScope y5r z6r (z0g z6k):=z0Q
theorem y3j(B:FnB K mg "best_for" z6k z6r)(T:Txt mg)(Z:Cls K mg base cl)(hJ:DefX P w K mg base 3 "order_asked" (spX K cl z1K))(iT:DefX P w K mg base 17 "orders_to" (x0o K cl z1m)):DefX P w K mg base 18 "best_for" (x0o K cl z1d):=by
 exact B.on fun F hm hb=>⟨_,_,z6r,hm,F.kp,hb,fnXS (k:=17) (g:=z3r) F iS rfl rfl fun cdv A outer s H E B hr=>
  (z0f (s_asgXS (z0L (i:=3) iS.nd rfl (Or.inr rfl) (z6U iT (hr.mono nofun) rfl x3a (z0a (z0e 0 (pv 0)) (z0a (z0e 1 (pv 1)) z0d)))))
   (z0f (s_exprX (y7S hJ (hr.mono nofun) rfl x3a (z0a (z0e 2 (pv 2)) (z0a (z0J rfl T.fM (z0e 0 (pv 0))) z0d))))
   (z0f (z2U (z0L (i:=4) iS.nd rfl ∅ (z0t (z1Z (z1Y (N':=["table", "kind", "wish", "orders", "best", "thing"])  rfl ⟨rfl,rfl,rfl,rfl,rfl⟩ (n:=5) rfl (z0H (z0e 2 (pv 2))) (fun _ _ _ _ _=>z0l (i:=5) nd13 rfl ∅) (fun _ _ _ _ _=>z0N (y5g (z0t (z0e 3 (pv 3)) (z0e 5 (pv 5))))) (fun _ _ _ _ _=>(z0e 5 (pv 5))))) z0i)))
   (z0h (z2o (z1J (z0a (z0e 4 (pv 4)) (z0a (z0t (z0e 3 (pv 3)) (z0e 4 (pv 4))) z0d))))))))⟩
theorem z7y:FnScope z8k z4Z (z0g z3k):=z0Q
theorem z7J(B:FnB K mg "_law_cell_at" z3k z4Z)(T:Txt mg):DefOk P w K mg base 1 "_law_cell_at" (spN K z0p):=
 B.on fun F hm hb=>z4P (k:=0) (g:=z2j) F hm hb z7y rfl rfl fun cdv A outer s H E hr=>
  (z0f (z3x (pt_lt (z0e 1 (pv 1)) (z0J rfl T.fM (z0e 0 (pv 0)))) (z0h (z0O (z0t (z0e 0 (pv 0)) (z0e 1 (pv 1))))) z0I)
   (z0h (z0O z0i)))
theorem z9U:FnScope y1k z6H (z0g z4m):=z0Q
theorem z9l(B:FnB K mg "_law_whole" z4m z6H)(T:Txt mg):DefOk P w K mg base 1 "_law_whole" (spN K z1w):=
 B.on fun F hm hb=>z4P (k:=0) (g:=z4r) F hm hb z9U rfl rfl fun cdv A outer s H E hr=>
  (z0h (z0O (y4v (y4N rfl T.jF rfl T.fL (z0e 0 (pv 0))) (y8c (x2T (y1t rfl T.kc rfl T.fL (z0e 0 (pv 0))))))))
theorem gz:FnScope y1S z6J (z0g z4w):=z0Q
theorem z9e(B:FnB K mg "_law_order" z4w z6J)(T:Txt mg):DefOk P w K mg base 1 "_law_order" (spN K z1B):=
 B.on fun F hm hb=>z4P (k:=0) (g:=z4f) F hm hb gz rfl rfl fun cdv A outer s H E hr=>
  (z0f (z1I (z0L (i:=2) gz.nd rfl ∅ (z3V (z0x z0d))))
   (z0f (z1H PassesOwn.never rfl (z0V rfl T.fN (z0e 1 (pv 1))) (z0l (i:=3) gz.nd rfl ∅) (z0f (x1R PySem.F.slot_list_insert PySem.F.type_list_insert y1B y0Z (pv 2) (z0a (z1P (z0e 0 (pv 0)) (z5L (z0e 3 (pv 3)) z0i)) (z0a (z0e 3 (pv 3)) z0d)))
   (z0h (z2U (z0L (i:=0) gz.nd rfl ∅ (z4Y (z0e 0 (pv 0)) (z5L (z0e 3 (pv 3)) z0i)))))))
   (z0h (z6F (pv 2)))))
theorem fO:FnScope y0A z6M (z0g z4t):=z0Q
theorem z9o(B:FnB K mg "_law_table" z4t z6M)(T:Txt mg)(G__law_cell_at:DefOk P w K mg base 1 "_law_cell_at" (spN K z0p)):DefOk P w K mg base 2 "_law_table" (spN K z2S):=
 B.on fun F hm hb=>z4P (k:=1) (g:=z4b) F hm hb fO rfl rfl fun cdv A outer s H E hr=>
  (z0f (z2U (z0L (i:=2) fO.nd rfl ∅ (z1P (z2D (z0m G__law_cell_at (hr.mono nofun) rfl (z0a (z0e 0 (pv 0)) (z0a z0i z0d)))) z0i)))
   (z0f (z1I (x3m (i:=3) (N':=["script", "many", "seed", "table", "pairs", "a", "b", "bits", "p", "9", "k"]) fO.nd rfl rfl rfl ⟨rfl,rfl,rfl,rfl,rfl⟩ (n:=10) rfl (z0V rfl T.fN (z0e 1 (pv 1))) (fun _ _ _ _ _=>z0l (i:=10) nd14 rfl ∅) (fun _ _ _ _ _=>z1i) (fun _ _ _ _ _=>(z3V (y3v (z1Z (z0x (z0a z3c z0d))) (z0e 1 (pv 1)))))))
   (z0f (z1I (z0L (i:=4) fO.nd rfl ∅ (z3V (z0x z0d))))
   (z0f (z1H PassesOwn.never rfl (z0V rfl T.fN (z0e 1 (pv 1))) (z0l (i:=5) fO.nd rfl ∅) (z0h (z1H PassesOwn.never rfl (z0V rfl T.fN (z0e 5 (pv 5))) (z0l (i:=6) fO.nd rfl ∅) (z0h (x1R PySem.F.slot_list_append PySem.F.type_list_append z1F z2L (pv 4) (z0a (z1J (z0a (z0e 5 (pv 5)) (z0a (z0e 6 (pv 6)) z0d))) z0d))))))
   (z0f (z1I (z0L (i:=7) fO.nd rfl ∅ (z3V (y3v (z1Z (z0x (z0a z0i z0d))) (z0J rfl T.fM (z0e 4 (pv 4)))))))
   (z0f (s_frz 4 (z1H PassesOwn.never rfl (z0V rfl T.fN (z0J rfl T.fM (z0e 4 (pv 4)))) (z0l (i:=8) fO.nd rfl ∅) (z0h (z3x (x1h (z1P (z0e 2 (pv 2)) z0i) z0i) (z0h (s_st0 (pv 7) (z0e 8 (pv 8)) (z1P (z4Y (z1P (y8V (z0e 2 (pv 2)) (z5L z0i (y8V (y8V z0i (z0e 8 (pv 8))) (z0e 8 (pv 8))))) z0i) z0i) z0i))) z0I))))
   (z0f (z1H PassesOwn.never rfl (pi_rng2 rfl T.fN z0i (z0J rfl T.fM (z0e 0 (pv 0)))) (z0l (i:=9) fO.nd rfl ∅) (z0h (z3x (x1h (z0J rfl T.fM (z0e 4 (pv 4))) z0i) (z0h (s_st0 (pv 7) (z1P (z0e 9 (pv 9)) (z0J rfl T.fM (z0e 4 (pv 4)))) (z1P (z5L (z0t (z0e 7 (pv 7)) (z1P (z0e 9 (pv 9)) (z0J rfl T.fM (z0e 4 (pv 4))))) (z0t (z0e 0 (pv 0)) (z0e 9 (pv 9)))) z0i))) z0I)))
   (z0f (z1H PassesOwn.never rfl (z0V rfl T.fN (z0J rfl T.fM (z0e 4 (pv 4)))) (z0l (i:=8) fO.nd rfl ∅) (z0f (y6L (pv 3) (z0t (z0t (z0e 4 (pv 4)) (z0e 8 (pv 8))) z0i) (z0t (z0t (z0e 4 (pv 4)) (z0e 8 (pv 8))) z0i) (y5V hr.units (z0t (z0e 7 (pv 7)) (z0e 8 (pv 8))) z0i))
   (z0h (y6L (pv 3) (z0t (z0t (z0e 4 (pv 4)) (z0e 8 (pv 8))) z0i) (z0t (z0t (z0e 4 (pv 4)) (z0e 8 (pv 8))) z0i) (y5V hr.units (z0t (z0e 7 (pv 7)) (z0e 8 (pv 8))) z0i)))))
   (z0h (z6F (pv 3)))))))))))
theorem fP:FnScope y1y z6O (z0g z4e):=z0Q
theorem z9P(B:FnB K mg "_law_seven" z4e z6O)(T:Txt mg):DefOk P w K mg base 1 "_law_seven" (spN K z2Q):=
 B.on fun F hm hb=>defNb (k:=0) (g:=z4h) F hm hb fP rfl rfl fun cdv A outer s H E hr=>
  (x0y (y8x (i:=2) fP.nd rfl ∅ rfl rfl ∅)
   (z0f (z1I (z0L (i:=2) fP.nd rfl ∅ (z3V (z5N (z0e 2 (pv 2)) (z1Z (y9w rfl rfl))))))
   (z0f (x1R PySem.F.slot_list_append PySem.F.type_list_append z1F z2L (pv 2) (z0a (z0t (z1Z (z0x (z0a (z1J (z0a z0i (z0a z0i z0d))) (z0a (z1J (z0a z0i (z0a z0i z0d))) z0d)))) (z1P (z0e 1 (pv 1)) z0i)) z0d))
   (z0f (x1R PySem.F.slot_list_append PySem.F.type_list_append z1F z2L (pv 2) (z0a (z0t (z1Z (z0x (z0a (z1J (z0a z0i (z0a z0i z0d))) (z0a (z1J (z0a z0i (z0a z0i z0d))) z0d)))) (z1P (z4Y (z0e 1 (pv 1)) z0i) z0i)) z0d))
   (z0f (x1R PySem.F.slot_list_append PySem.F.type_list_append z1F z2L (pv 2) (z0a (z0t (z1Z (z0x (z0a (z1J (z0a z0i (z0a z0i z0d))) (z0a (z1J (z0a z0i (z0a z0i z0d))) z0d)))) (z1P (z4Y (z0e 1 (pv 1)) z0i) z0i)) z0d))
   (z0f (x1R PySem.F.slot_list_append PySem.F.type_list_append z1F z2L (pv 2) (z0a (z0t (z1Z (z0x (z0a (z1J (z0a z0i (z0a z0i z0d))) (z0a (z1J (z0a z0i (z0a z0i z0d))) z0d)))) (z9Q rfl T.jF (y5V hr.units (z1P (z4Y (z0e 1 (pv 1)) z0i) z0i) z0i))) z0d))
   (z0f (z1I (x3m (i:=3) (N':=["places", "bits", "beats", "table", "one", "other", "last", "k"]) fP.nd rfl rfl rfl ⟨rfl,rfl,rfl,rfl,rfl⟩ (n:=7) rfl (z0V rfl T.fN (z0J rfl T.fM (z0e 0 (pv 0)))) (fun _ _ _ _ _=>z0l (i:=7) nd15 rfl ∅) (fun _ _ _ _ _=>z1i) (fun _ _ _ _ _=>(z3V (y3v (z1Z (z0x (z0a z3c z0d))) (z0J rfl T.fM (z0e 0 (pv 0))))))))
   (z0f (s_frz 2 (x3j PassesOwn.never rfl (z0H (z0e 2 (pv 2))) (y7G rfl (z0l (i:=4) fP.nd rfl ∅) (z0l (i:=5) fP.nd rfl ∅)) (z0h (y6L (pv 3) (z0t (z0e 0 (pv 0)) (z0e 4 (pv 4))) (z0t (z0e 0 (pv 0)) (z0e 5 (pv 5))) z3c))))
   (z0f (z1H PassesOwn.never rfl (z0H (z1Z (z1f (z0e 0 (pv 0)) (z0Z z0i) z1n))) (z0l (i:=6) fP.nd rfl ∅) (z0f (s_st0N (pv 3) (z0e 6 (pv 6)) (z3V (y3v (z1Z (z0x (z0a z3c z0d))) (z0J rfl T.fM (z0e 0 (pv 0))))))
   (z0h (z1H PassesOwn.never rfl (z0H (z1Z (z1f (z0e 0 (pv 0)) z1n (z0Z z0i)))) (z0l (i:=4) fP.nd rfl ∅) (z0h (y6L (pv 3) (z0e 4 (pv 4)) (z0e 6 (pv 6)) z3c))))))
   (z0h (z6F (pv 3))))))))))))
theorem y1L:FnScope y3a z8g (z0g z5t):=z0Q
theorem y1u(B:FnB K mg "_law_copy" z5t z8g)(T:Txt mg):DefOk P w K mg base 1 "_law_copy" (spN K z1R):=
 B.on fun F hm hb=>z4P (k:=0) (g:=z5a) F hm hb y1L rfl rfl fun cdv A outer s H E hr=>
  (z0h (z2m (y2O (N':=["table", "row"])  rfl ⟨rfl,rfl,rfl,rfl,rfl⟩ (n:=1) rfl (z0H (z0e 0 (pv 0))) (fun _ _ _ _ _=>z0l (i:=1) nd16 rfl ∅) (fun _ _ _ _ _=>z1i) (fun _ _ _ _ _=>(z3V (z4n rfl T.g6 (z0e 1 (pv 1))))))))
theorem iA:FnScope z7L z4k (z0g z2H):=z0Q
theorem z6T(B:FnB K mg "_law_is_order" z2H z4k)(T:Txt mg)(G__law_whole:DefOk P w K mg base 1 "_law_whole" (spN K z1w)):DefOk P w K mg base 2 "_law_is_order" (spN K z1E):=
 B.on fun F hm hb=>z4P (k:=1) (g:=z2M) F hm hb iA rfl rfl fun cdv A outer s H E hr=>
  (z0f (z3x (PW.pt (z4g (z1t (z0n (y9h rfl T.g6 rfl T.fL (z0e 0 (pv 0))))) (z3a (y0k hr.units (z0J rfl T.fM (z0e 0 (pv 0))) (z0e 1 (pv 1)))))) (z0h (z0O z3c)) z0I)
   (z0f (z1H PassesOwn.never rfl (z0H (z0e 0 (pv 0))) (z0l (i:=2) iA.nd rfl ∅) (z0h (z3x (z1t (z0n (z2D (z0m G__law_whole (hr.mono nofun) rfl (z0a (z0e 2 (pv 2)) z0d))))) (z0h (z0O z3c)) z0I)))
   (z0h (z0O (y5V hr.units (z1Z (y9a rfl T.jW (z0e 0 (pv 0)))) (z1Z (y7c rfl rfl T.g6 rfl T.fN (z0e 1 (pv 1)))))))))
theorem gA:FnScope y1q z6I (z0g z3X):=z0Q
theorem z9O(B:FnB K mg "_law_stand" z3X z6I)(T:Txt mg):DefOk P w K mg base 1 "_law_stand" (spN K z2R):=
 B.on fun F hm hb=>z4P (k:=0) (g:=z4x) F hm hb gA rfl rfl fun cdv A outer s H E hr=>
  (z0f (z2U (z0L (i:=2) gA.nd rfl ∅ (z0t (z0e 1 (pv 1)) z0i)))
   (z0f (z1H PassesOwn.never rfl (z0H (z1Z (z1f (z0e 1 (pv 1)) (z0Z z0i) z1n))) (z0l (i:=3) gA.nd rfl ∅) (z0h (z3x (z0n (z0t (z0t (z0e 0 (pv 0)) (z0e 3 (pv 3))) (z0e 2 (pv 2)))) (z0h (z2U (z0L (i:=2) gA.nd rfl ∅ (z0e 3 (pv 3))))) z0I)))
   (z0h (z0O (z0e 2 (pv 2))))))
theorem hU:FnScope y0E z6K (z0g z4l):=z0Q
theorem z9v(B:FnB K mg "_law_chain" z4l z6K)(T:Txt mg):DefOk P w K mg base 1 "_law_chain" (spN K z2T):=
 B.on fun F hm hb=>z4P (k:=0) (g:=z4d) F hm hb hU rfl rfl fun cdv A outer s H E hr=>
  (z0f (z1I (z0L (i:=2) hU.nd rfl ∅ (z3V (z0x z0d))))
   (z0f (z1H PassesOwn.never rfl (y7K rfl T.i8 (z0e 1 (pv 1))) (z0l (i:=3) hU.nd rfl (Or.inr rfl)) (z0h (z3x (z3C hr.units (z0J rfl T.fM (z1Z (z1Y (N':=["table", "order", "chain", "one", "other"])  rfl ⟨rfl,rfl,rfl,rfl,rfl⟩ (n:=4) rfl (z0H (z0e 2 (pv 2))) (fun _ _ _ _ _=>z0l (i:=4) nd17 rfl ∅) (fun _ _ _ _ _=>z0N (z1t (z0n (z0t (z0t (z0e 0 (pv 0)) (z0e 3 (pv 3))) (z0e 4 (pv 4)))))) (fun _ _ _ _ _=>(z0e 4 (pv 4)))))) z0i) (z0h (x1R PySem.F.slot_list_insert PySem.F.type_list_insert y1B y0Z (pv 2) (z0a z0i (z0a (z0e 3 (pv 3)) z0d)))) z0I)))
   (z0h (z6F (pv 2)))))
theorem gH:FnScope y2Q z7q (z0g z5c):=z0Q
theorem y1X(B:FnB K mg "_law_rest" z5c z7q)(T:Txt mg):DefOk P w K mg base 1 "_law_rest" (spN K z3N):=
 B.on fun F hm hb=>z4P (k:=0) (g:=z5l) F hm hb gH rfl rfl fun cdv A outer s H E hr=>
  (z0f (z2U (z0L (i:=2) gH.nd rfl ∅ (z0t (z0e 1 (pv 1)) (y3q z0i))))
   (z0f (z1H PassesOwn.never rfl (y7K rfl T.i8 (z0e 1 (pv 1))) (z0l (i:=3) gH.nd rfl ∅) (z0h (z3x (z0n (z0t (z0t (z0e 0 (pv 0)) (z0e 3 (pv 3))) (z0e 2 (pv 2)))) (z0h (z2U (z0L (i:=2) gH.nd rfl ∅ (z0e 3 (pv 3))))) z0I)))
   (z0h (z0O (z0e 2 (pv 2))))))
theorem y2k:FnScope y6c z8L (z0g z6C):=z0Q
theorem y2K(B:FnB K mg "_law_led" z6C z8L)(T:Txt mg)(iB:DefOk P w K mg base 1 "_law_stand" (spN K z2R))(iC:DefOk P w K mg base 1 "_law_chain" (spN K z2T))(iU:DefOk P w K mg base 1 "_law_rest" (spN K z3N)):DefOk P w K mg base 2 "_law_led" (spN K z1x):=
 B.on fun F hm hb=>z4P (k:=1) (g:=z3p) F hm hb y2k rfl rfl fun cdv A outer s H E hr=>
  (z0f (z3x (z3C hr.units (z0e 1 (pv 1)) z0F) (z0h (z2m (z0m iB (hr.mono nofun) rfl (z0a (z0e 0 (pv 0)) (z0a (z0e 2 (pv 2)) z0d))))) z0I)
   (z0f (z3x (z3C hr.units (z0e 1 (pv 1)) z0F) (z0h (z0O (z0t (z2D (z0m iC (hr.mono nofun) rfl (z0a (z0e 0 (pv 0)) (z0a (z0e 2 (pv 2)) z0d)))) z0i))) z0I)
   (z0h (z2m (z0m iU (hr.mono nofun) rfl (z0a (z0e 0 (pv 0)) (z0a (z0e 2 (pv 2)) z0d)))))))
theorem f6:FnScope y5C z8N (z0g z6q):=z0Q
theorem y2w(B:FnB K mg "_law_top" z6q z8N)(T:Txt mg)(G__law_copy:DefOk P w K mg base 1 "_law_copy" (spN K z1R)):DefOk P w K mg base 2 "_law_top" (spN K z4C):=
 B.on fun F hm hb=>z4P (k:=1) (g:=z6z) F hm hb f6 rfl rfl fun cdv A outer s H E hr=>
  (z0f (z2U (z0L (i:=1) f6.nd rfl (Or.inr rfl) (z0J rfl T.fM (z0e 0 (pv 0)))))
   (z0f (z1I (z0L (i:=2) f6.nd rfl (Or.inr rfl) (z0m G__law_copy (hr.mono nofun) rfl (z0a (z0e 0 (pv 0)) z0d))))
   (z0f (z1H PassesOwn.never rfl (z0V rfl T.fN (z0e 1 (pv 1))) (z0l (i:=3) f6.nd rfl ∅) (z0h (z1H PassesOwn.never rfl (z0V rfl T.fN (z0e 1 (pv 1))) (z0l (i:=4) f6.nd rfl ∅) (z0h (z1H PassesOwn.never rfl (z0V rfl T.fN (z0e 1 (pv 1))) (z0l (i:=5) f6.nd rfl ∅) (z0h (z3x (PW.pt (z4c (z0n (z0t (z0t (z0e 2 (pv 2)) (z0e 4 (pv 4))) (z0e 3 (pv 3)))) (z3D (z0n (z0t (z0t (z0e 2 (pv 2)) (z0e 3 (pv 3))) (z0e 5 (pv 5))))))) (z0h (y6L (pv 2) (z0e 4 (pv 4)) (z0e 5 (pv 5)) z3c)) z0I)))))))
   (z0h (z2m (z3V (z1Y (N':=["table", "many", "comes", "c", "4", "b", "a"])  rfl ⟨rfl,rfl,rfl,rfl,rfl⟩ (n:=6) rfl (z0V rfl T.fN (z0e 1 (pv 1))) (fun _ _ _ _ _=>z0l (i:=6) nd18 rfl (Or.inr rfl)) (fun _ _ _ _ _=>z0N (z3C hr.units (z0J rfl T.fM (z1Z (z1Y (N':=["table", "many", "comes", "c", "4", "5", "a", "b"])  rfl ⟨rfl,rfl,rfl,rfl,rfl⟩ (n:=7) rfl (z0V rfl T.fN (z0e 1 (pv 1))) (fun _ _ _ _ _=>z0l (i:=7) nd19 rfl ∅) (fun _ _ _ _ _=>z0N (PW.pt (z4c (y0k hr.units (z0e 7 (pv 7)) (z0e 6 (pv 6))) (z3D (z1t (z0n (z0t (z0t (z0e 2 (pv 2)) (z0e 6 (pv 6))) (z0e 7 (pv 7))))))))) (fun _ _ _ _ _=>(z0e 7 (pv 7)))))) z0i)) (fun _ _ _ _ _=>(z0e 6 (pv 6))))))))))
theorem gc:FnScope z8v z4R (z0g z3d):=z0Q
theorem z7C(B:FnB K mg "_law_subsets" z3d z4R)(T:Txt mg):DefOk P w K mg base 1 "_law_subsets" (spR K z2h):=
 B.on fun F hm hb=>defR (k:=0) (g:=z3h) F hm hb gc rfl rfl fun cdv A outer s H E B hr=>
  (z0f (z1g (z0L (i:=1) gc.nd rfl ∅ (z2D (y3g (z2z (z3V (z0x z0d)) y2T)))))
   (z0f (z1H PassesOwn.never rfl (z0H (z0e 0 (pv 0))) (z0l (i:=2) gc.nd rfl (Or.inr rfl)) (z0h (z1g (z0L (i:=1) gc.nd rfl ∅ (z1Z (z5N (z0e 1 (pv 1)) (z2D (y2O (N':=["things", "found", "one", "some"])  rfl ⟨rfl,rfl,rfl,rfl,rfl⟩ (n:=3) rfl (z0H (z0e 1 (pv 1))) (fun _ _ _ _ _=>z0l (i:=3) nd20 rfl ∅) (fun _ _ _ _ _=>z1i) (fun _ _ _ _ _=>(z3V (z5N (z0e 3 (pv 3)) (z1Z (z0x (z0a (z0e 2 (pv 2)) z0d))))))))))))))
   (z0h (z2o (z0e 1 (pv 1))))))
theorem fS:FnScope z6p z3v (z0g z2b):=z0Q
theorem z5J(B:FnB K mg "_law_goes_round" z2b z3v)(T:Txt mg):DefOk P w K mg base 1 "_law_goes_round" (spN K z1p):=
 B.on fun F hm hb=>z4P (k:=0) (g:=z1S) F hm hb fS rfl rfl fun cdv A outer s H E hr=>
  (z0f (z1H PassesOwn.never rfl (z0H (z0e 1 (pv 1))) (z0l (i:=2) fS.nd rfl (Or.inr rfl)) (z0h (z1H PassesOwn.never rfl (z0H (z0e 1 (pv 1))) (z0l (i:=3) fS.nd rfl (Or.inr rfl)) (z0f (z1I (PAsg.imp (y1E (i:=4) (N':=["table", "things", "a", "b", "back", "c"]) fS.nd rfl rfl rfl ⟨rfl,rfl,rfl,rfl,rfl⟩ (n:=5) rfl (z0H (z0e 1 (pv 1))) (fun _ _ _ _ _=>z0l (i:=5) nd21 rfl ∅) (fun _ _ _ _ _=>z0N (PW.pt (z4c (z0n (z0t (z0t (z0e 0 (pv 0)) (z0e 3 (pv 3))) (z0e 5 (pv 5)))) (z3D (z0n (z0t (z0t (z0e 0 (pv 0)) (z0e 5 (pv 5))) (z0e 2 (pv 2)))))))) (fun _ _ _ _ _=>(z0e 5 (pv 5)))) iNF))
   (z0h (z3x (PW.pt (z4c (z0n (z0t (z0t (z0e 0 (pv 0)) (z0e 2 (pv 2))) (z0e 3 (pv 3)))) (z3D (x1h (z0J rfl T.fM (z0e 4 (pv 4))) z0i)))) (z0h (z0O z3c)) z0I))))))
   (z0h (z0O z3c)))
theorem gI:FnScope z8u z4V (z0g z3e):=z0Q
theorem z7Y(B:FnB K mg "_law_beaters" z3e z4V)(T:Txt mg):DefOk P w K mg base 1 "_law_beaters" (spN K z2e):=
 B.on fun F hm hb=>z4P (k:=0) (g:=z3l) F hm hb gI rfl rfl fun cdv A outer s H E hr=>
  (z0f (z1I (z0L (i:=2) gI.nd rfl ∅ (z3V (z0x z0d))))
   (z0f (z1H PassesOwn.never rfl (z0V rfl T.fN (z0J rfl T.fM (z0e 0 (pv 0)))) (z0l (i:=3) gI.nd rfl (Or.inr rfl)) (z0h (z3x (z3C hr.units (z0J rfl T.fM (z1Z (z1Y (N':=["table", "things", "found", "one", "other"])  rfl ⟨rfl,rfl,rfl,rfl,rfl⟩ (n:=4) rfl (z0H (z0e 1 (pv 1))) (fun _ _ _ _ _=>z0l (i:=4) nd22 rfl ∅) (fun _ _ _ _ _=>z0N (z1t (z0n (z0t (z0t (z0e 0 (pv 0)) (z0e 3 (pv 3))) (z0e 4 (pv 4)))))) (fun _ _ _ _ _=>(z0e 4 (pv 4)))))) z0i) (z0h (x1R PySem.F.slot_list_append PySem.F.type_list_append z1F z2L (pv 2) (z0a (z0e 3 (pv 3)) z0d))) z0I)))
   (z0h (z6F (pv 2)))))
theorem gJ:FnScope z8m z4Q (z0g z2Z):=z0Q
theorem z7W(B:FnB K mg "_law_crowned" z2Z z4Q)(T:Txt mg)(gO:DefOk P w K mg base 1 "_law_subsets" (spR K z2h))(gr:DefOk P w K mg base 1 "_law_goes_round" (spN K z1p))(gP:DefOk P w K mg base 1 "_law_beaters" (spN K z2e)):DefOk P w K mg base 2 "_law_crowned" (spN K z1r):=
 B.on fun F hm hb=>z4P (k:=1) (g:=z3i) F hm hb gJ rfl rfl fun cdv A outer s H E hr=>
  (z0f (z1g (PAsg.imp (y1E (i:=2) (N':=["table", "thing", "beaten", "some", "other"]) gJ.nd rfl rfl rfl ⟨rfl,rfl,rfl,rfl,rfl⟩ (n:=4) rfl (z0V rfl T.fN (z0J rfl T.fM (z0e 0 (pv 0)))) (fun _ _ _ _ _=>z0l (i:=4) nd23 rfl ∅) (fun _ _ _ _ _=>z0N (z0n (z0t (z0t (z0e 0 (pv 0)) (z0e 1 (pv 1))) (z0e 4 (pv 4))))) (fun _ _ _ _ _=>(z0e 4 (pv 4)))) iDF))
   (z0f (z1H PassesOwn.never rfl (z0H (z2v gO (hr.mono nofun) rfl (z0a (z0e 2 (pv 2)) z0d))) (z0l (i:=3) gJ.nd rfl ∅) (z0h (z3x (PW.pt (z4c (z1t (z0n (z2D (z0m gr (hr.mono nofun) rfl (z0a (z0e 0 (pv 0)) (z0a (z0e 3 (pv 3)) z0d)))))) (z3D (z3C hr.units (z0J rfl T.fM (z2D (z0m gP (hr.mono nofun) rfl (z0a (z0e 0 (pv 0)) (z0a (z1Z (z5N (z0e 3 (pv 3)) (z1Z (z0x (z0a (z0e 1 (pv 1)) z0d))))) z0d))))) z0i)))) (z0h (z0O z3c)) z0I)))
   (z0h (z0O z3c))))
theorem gd:FnScope z8y z4T (z0g z3g):=z0Q
theorem z7i(B:FnB K mg "_law_refusal" z3g z4T)(T:Txt mg)(Z:Cls K mg base cl)(gp:DefX P w K mg base 18 "best_for" (x0o K cl z1d)):DefOk P w K mg base 19 "_law_refusal" (spN K z0R):=by
 obtain⟨C_AskError,iV,jf,nn_AskError,g5⟩:=Z.j4
 obtain⟨C_BadOrder,hc_BadOrder,gG,jG,fZ⟩:=Z.jO
 obtain⟨C_NotTop,iR,jZ,jV,gF⟩:=Z.jX
 obtain⟨C_Unknown,hc_Unknown,fW,jQ,gn⟩:=Z.jU
 exact B.on fun F hm hb=>z4P (k:=18) (g:=z2f) F hm hb gd rfl rfl fun cdv A outer s H E hr=>
  (z0f (s_try (gh:=(fun c=>match c with | 0=>fun _=>none | 1=>(x0f 3 "BadOrder" (z0E (ifO (z9S (z2B (z0v (d1 (z4z ["BadOrder", "NotTop", "Unknown"] ["BadOrder", "NotTop", "Unknown"]) (z0b 3)))) (z0D (d2 eqD (d1 (z4z ["Unknown"] ["BadOrder", "NotTop", "Unknown"]) (z0b 3)) (d1 (z4z ["BadOrder"] ["BadOrder", "NotTop", "Unknown"]) (z0b 3))))) (z2N (dC (.str "odd"))) z0P)   (z2N (d2 ixD (mkL (z0j [(dC (.str "order")),(dC (.str "unknown"))])) (z0k y4Z [(d1 (z4z ["Unknown"] ["BadOrder", "NotTop", "Unknown"]) (z0b 3))]))))) | 2=>(x0f 3 "NotTop" (z0E (ifO (z9S (z2B (z0v (d1 (z4z ["BadOrder", "NotTop", "Unknown"] ["BadOrder", "NotTop", "Unknown"]) (z0b 3)))) (z0D (d2 eqD (d1 (z4z ["Unknown"] ["BadOrder", "NotTop", "Unknown"]) (z0b 3)) (d1 (z4z ["BadOrder"] ["BadOrder", "NotTop", "Unknown"]) (z0b 3))))) (z2N (dC (.str "odd"))) z0P)   (z2N (d2 ixD (mkL (z0j [(dC (.str "order")),(dC (.str "unknown"))])) (z0k y4Z [(d1 (z4z ["Unknown"] ["BadOrder", "NotTop", "Unknown"]) (z0b 3))]))))) | 3=>(x0f 3 "Unknown" (z0E (ifO (z9S (z2B (z0v (d1 (z4z ["BadOrder", "NotTop", "Unknown"] ["BadOrder", "NotTop", "Unknown"]) (z0b 3)))) (z0D (d2 eqD (d1 (z4z ["Unknown"] ["BadOrder", "NotTop", "Unknown"]) (z0b 3)) (d1 (z4z ["BadOrder"] ["BadOrder", "NotTop", "Unknown"]) (z0b 3))))) (z2N (dC (.str "odd"))) z0P)   (z2N (d2 ixD (mkL (z0j [(dC (.str "order")),(dC (.str "unknown"))])) (z0k y4Z [(d1 (z4z ["Unknown"] ["BadOrder", "NotTop", "Unknown"]) (z0b 3))]))))) | _+4=>fun _=>none)) rfl rfl (fun pn xe RX' hW=>(z0h (x1X (z6U gp (hr.mono nofun) rfl hW (z0a (z0e 0 (pv 0)) (z0a (z0e 1 (pv 1)) (z0a (z0e 2 (pv 2)) z0d))))))) (fun c=>match c with | 0=>y4J (fun _=>rfl) | 1=>(by rw[hc_BadOrder];exact y8C (i:=3) jG fZ rfl jf.bound (by have z:=Z.e_BadOrder_AskError _ iV;rw[hc_BadOrder]at z;exact z) gd.nd rfl rfl (fun _=>(z0f (z3x (PW.pt (z4g (z1t (z0n (y2d (T := "ValueError") rfl T.iq (by kernel_rfl) Z.ir rfl T.fL (z0e 3 (pv 3))))) (z3a (z3C hr.units (z3L rfl fW.bound (Z.gD _ hc_Unknown) rfl T.fL (z0e 3 (pv 3))) (z3L rfl gG.bound (Z.i9 _ hc_BadOrder) rfl T.fL (z0e 3 (pv 3))))))) (z0h (z0O z0F)) z0I)       (z0h (z0O (z0t (z1Z (z0x (z0a z0F (z0a z0F z0d)))) (z9Q rfl T.jF (z3L rfl fW.bound (Z.gD _ hc_Unknown) rfl T.fL (z0e 3 (pv 3)))))))))) | 2=>(by rw[iR];exact y8C (i:=3) jV gF rfl jf.bound (by have z:=Z.fR _ iV;rw[iR]at z;exact z) gd.nd rfl rfl (fun _=>(z0f (z3x (PW.pt (z4g (z1t (z0n (y2d (T := "ValueError") rfl T.iq (by kernel_rfl) Z.ir rfl T.fL (z0e 3 (pv 3))))) (z3a (z3C hr.units (z3L rfl fW.bound (Z.gD _ hc_Unknown) rfl T.fL (z0e 3 (pv 3))) (z3L rfl gG.bound (Z.i9 _ hc_BadOrder) rfl T.fL (z0e 3 (pv 3))))))) (z0h (z0O z0F)) z0I)       (z0h (z0O (z0t (z1Z (z0x (z0a z0F (z0a z0F z0d)))) (z9Q rfl T.jF (z3L rfl fW.bound (Z.gD _ hc_Unknown) rfl T.fL (z0e 3 (pv 3)))))))))) | 3=>(by rw[hc_Unknown];exact y8C (i:=3) jQ gn rfl jf.bound (by have z:=Z.e_Unknown_AskError _ iV;rw[hc_Unknown]at z;exact z) gd.nd rfl rfl (fun _=>(z0f (z3x (PW.pt (z4g (z1t (z0n (y2d (T := "ValueError") rfl T.iq (by kernel_rfl) Z.ir rfl T.fL (z0e 3 (pv 3))))) (z3a (z3C hr.units (z3L rfl fW.bound (Z.gD _ hc_Unknown) rfl T.fL (z0e 3 (pv 3))) (z3L rfl gG.bound (Z.i9 _ hc_BadOrder) rfl T.fL (z0e 3 (pv 3))))))) (z0h (z0O z0F)) z0I)       (z0h (z0O (z0t (z1Z (z0x (z0a z0F (z0a z0F z0d)))) (z9Q rfl T.jF (z3L rfl fW.bound (Z.gD _ hc_Unknown) rfl T.fL (z0e 3 (pv 3)))))))))) | _+4=>y4J (fun _=>rfl)))
   (z0h (z0O z0F)))
theorem y2D:FnScope y5U z8R (z0g z6e):=z0Q
theorem y3c(B:FnB K mg "_law_had" z6e z8R)(T:Txt mg)(jg:DefOk P w K mg base 2 "_law_top" (spN K z4C))(gQ:DefOk P w K mg base 2 "_law_crowned" (spN K z1r)):DefOk P w K mg base 3 "_law_had" (spN K z1X):=
 B.on fun F hm hb=>z4P (k:=2) (g:=z3w) F hm hb y2D rfl rfl fun cdv A outer s H E hr=>
  (z0f (z3x (z3C hr.units (z0e 1 (pv 1)) z0F) (z0h (z2m (z3V (z1Y (N':=["table", "kind", "thing"])  rfl ⟨rfl,rfl,rfl,rfl,rfl⟩ (n:=2) rfl (z0V rfl T.fN (z0J rfl T.fM (z0e 0 (pv 0)))) (fun _ _ _ _ _=>z0l (i:=2) nd24 rfl ∅) (fun _ _ _ _ _=>z0N (z0n (z2D (z0m gQ (hr.mono nofun) rfl (z0a (z0e 0 (pv 0)) (z0a (z0e 2 (pv 2)) z0d)))))) (fun _ _ _ _ _=>(z0e 2 (pv 2))))))) z0I)
   (z0h (z2m (z0m jg (hr.mono nofun) rfl (z0a (z0e 0 (pv 0)) z0d)))))
theorem fU:FnScope ko j3 (z0g z9g):=z0Q
theorem kl{f:Addr}{fd:fy}(F:Fun K "law" "law" z9g f fd)(T:Txt mg)(Z:Cls K mg base cl)(gp:DefX P w K mg base 18 "best_for" (x0o K cl z1d))(G__law_cell_at:DefOk P w K mg base 1 "_law_cell_at" (spN K z0p))(G__law_whole:DefOk P w K mg base 1 "_law_whole" (spN K z1w))(gK:DefOk P w K mg base 1 "_law_order" (spN K z1B))(iD:DefOk P w K mg base 2 "_law_table" (spN K z2S))(iE:DefOk P w K mg base 1 "_law_seven" (spN K z2Q))(G__law_copy:DefOk P w K mg base 1 "_law_copy" (spN K z1R))(gL:DefOk P w K mg base 2 "_law_is_order" (spN K z1E))(jh:DefOk P w K mg base 2 "_law_led" (spN K z1x))(G__law_refusal:DefOk P w K mg base 19 "_law_refusal" (spN K z0R))(ji:DefOk P w K mg base 3 "_law_had" (spN K z1X)):FnOk P w K mg base CX0 20 f fd j3 (spNO K y5d):=
 fnNO (k:=19) (g:=g_law) F fU rfl rfl fun cdv A outer s H E hr hO=>
  (z0f (z2U (z0L (i:=1) fU.nd rfl ∅ (z5L z0i (z1P (z2D (z0m G__law_cell_at (hr.mono nofun) rfl (z0a (z0e 0 (pv 0)) (z0a z0i z0d)))) z0i))))
   (z0f (z1g (z0L (i:=2) fU.nd rfl ∅ (z2D (z0m iD (hr.mono nofun) rfl (z0a (z0e 0 (pv 0)) (z0a (z0e 1 (pv 1)) z0d))))))
   (z0f (z3x (z3C hr.units (z1P (z4Y (z2D (z0m G__law_cell_at (hr.mono nofun) rfl (z0a (z0e 0 (pv 0)) (z0a z0i z0d)))) z0i) z0i) z0i) (z0f (z2U (z0L (i:=1) fU.nd rfl ∅ z0i))
   (z0h (z1g (z0L (i:=2) fU.nd rfl ∅ (z2D (z0m iE (hr.mono nofun) rfl (z0a (z2D (z0m gK (hr.mono nofun) rfl (z0a (z2D (z0m G__law_cell_at (hr.mono nofun) rfl (z0a (z0e 0 (pv 0)) (z0a z0i z0d)))) (z0a z0i z0d)))) (z0a (z4Y (z2D (z0m G__law_cell_at (hr.mono nofun) rfl (z0a (z0e 0 (pv 0)) (z0a z0i z0d)))) z0i) z0d)))))))) z0I)
   (z0f (z1g (z0L (i:=3) fU.nd rfl ∅ (z2D (pn_fz (z0m gK (hr.mono nofun) rfl (z0a (z2D (z0m G__law_cell_at (hr.mono nofun) rfl (z0a (z0e 0 (pv 0)) (z0a z0i z0d)))) (z0a (z0e 1 (pv 1)) z0d)))))))
   (z0f (z1g (z0L (i:=4) fU.nd rfl ∅ (z2D (y3g (z2z (z0m G__law_copy (hr.mono nofun) rfl (z0a (z0e 2 (pv 2)) z0d)) (z2z (pn_fz (z3V (z4n rfl T.g6 (z0e 3 (pv 3))))) y2T))))))
   (ss_pin (ts:=["plain", "ahead", "rest"]) PassesOwn.never rfl rfl rfl (z0l (i:=5) fU.nd rfl ∅) (fun p=>(z7l (lp (RX:=noX) (z1g (z0L (i:=6) fU.nd rfl ∅ (y0y gp (hr.mono nofun) rfl (z0a (z0t (z0e 4 (pv 4)) z0i) (z0a (z0e 5 (pv 5)) (z0a (z0t (z0e 4 (pv 4)) z0i) z0d)))))))
   (z7l (lp (RX:=noX) (z1I (z0L (i:=7) fU.nd rfl (Or.inr rfl) (z0m ji (hr.mono nofun) rfl (z0a (z0e 2 (pv 2)) (z0a (z0e 5 (pv 5)) z0d))))))
   (z7l (lp (RX:=noX) (z3x (PW.pt (z4g (z1t (z0n (x1z rfl T.ki rfl T.fL (z0e 6 (pv 6))))) (z4g (y0k hr.units (z0J rfl T.fM (z0e 6 (pv 6))) z0i) (z3a (z1t (z0n (z2D (z0m G__law_whole (hr.mono nofun) rfl (z0a (z0t (z0e 6 (pv 6)) z0i) z0d))))))))) (z0h (z0O z3c)) z0I))
   (z7l (lp (RX:=noX) (z3x (PW.pt (z4g (z1t (z0n (z2D (z0m gL (hr.mono nofun) rfl (z0a (z0t (z0e 6 (pv 6)) z0i) (z0a (z0e 1 (pv 1)) z0d)))))) (z3a (y0k hr.units (z2D (z0m jh (hr.mono nofun) rfl (z0a (z0e 2 (pv 2)) (z0a (z0e 5 (pv 5)) (z0a (z0t (z0e 6 (pv 6)) z0i) z0d))))) (z0t (z0e 6 (pv 6)) z0i))))) (z0h (z0O z3c)) z0I))
   (z7l (s_apT hO (by intro _ _ h;cases h) (s_fgT (pv 6) z0i (z0a (z0e 1 (pv 1)) z0d)))
   (sp_one (lp (RX:=noX) (z3x (PW.pt (z4g (y0k hr.units (z0t (z0e 6 (pv 6)) z0i) (z0t (z1Z (z1Y (N':=["script", "many", "table", "wish", "handed", "kind", "found", "had", "word", "some", "bad", "thing"])  rfl ⟨rfl,rfl,rfl,rfl,rfl⟩ (n:=11) rfl (z0H (z0e 3 (pv 3))) (fun _ _ _ _ _=>z0l (i:=11) nd25 rfl ∅) (fun _ _ _ _ _=>z0N (pt_in hr.units (z0e 11 (pv 11)) (z0e 7 (pv 7)))) (fun _ _ _ _ _=>(z0e 11 (pv 11))))) z0i)) (z3a (y0k hr.units (z0e 4 (pv 4)) (z1Z (z0x (z0a (z0e 2 (pv 2)) (z0a (z0e 3 (pv 3)) z0d)))))))) (z0h (z0O z3c)) z0I)))))))))
   (z0f (z2U (z0L (i:=5) fU.nd rfl ∅ (z0t (z1Z (z0x (z0a z0F (z0a z0F (z0a z0F z0d))))) (z1P (z4Y (z2D (z0m G__law_cell_at (hr.mono nofun) rfl (z0a (z0e 0 (pv 0)) (z0a z0i z0d)))) z0i) z0i))))
   (z0f (z2U (z0L (i:=8) fU.nd rfl ∅ (z0t (z1Z (z0x (z0a z0F (z0a z0F (z0a z0F (z0a z0F (z0a z0F (z0a z0F z0d)))))))) (z1P (z4Y (z2D (z0m G__law_cell_at (hr.mono nofun) rfl (z0a (z0e 0 (pv 0)) (z0a z0i z0d)))) z0i) z0i))))
   (z0f (z1g (z0L (i:=9) fU.nd rfl ∅ (z2D (y3g (z2z (z3V (z1f (z0e 3 (pv 3)) z1n (z0Z (y3q z0i)))) (z2z (z3V (z9y (z0e 3 (pv 3)) (z1Z (z0x (z0a (z0t (z0e 3 (pv 3)) z0i) z0d))))) (z2z (z3V (z9y (z1Z (z1f (z0e 3 (pv 3)) (z0Z z0i) z1n)) (z1Z (z0x (z0a (z0e 1 (pv 1)) z0d))))) (z2z (z3V (z0x z0d)) (z2z (z3V (z9y (z1Z (z1f (z0e 3 (pv 3)) (z0Z z0i) (z0Z z0i))) (z1Z (z1f (z0e 3 (pv 3)) (z0Z z0i) z1n)))) (z2z (z3V (z9y (z1Z (z0x (z0a (y3q z0i) z0d))) (z1Z (z1f (z0e 3 (pv 3)) (z0Z z0i) z1n)))) y2T)) se_list))))))))
   (z0f (z1g (z0L (i:=10) fU.nd rfl ∅ (z0t (z0e 9 (pv 9)) (z1P (z4Y (z2D (z0m G__law_cell_at (hr.mono nofun) rfl (z0a (z0e 0 (pv 0)) (z0a z0i z0d)))) z0i) z0i))))
   (z0f (z3x (PW.pt (z4g (y0k hr.units (z2D (z0m G__law_refusal (hr.mono nofun) rfl (z0a (z0t (z0e 4 (pv 4)) z0i) (z0a (z0e 5 (pv 5)) (z0a (z1Z (z4n rfl T.g6 (z0e 10 (pv 10)))) z0d))))) z0F) (z3a (y0k hr.units (z2D (z0m G__law_refusal (hr.mono nofun) rfl (z0a (z0t (z0e 4 (pv 4)) z0i) (z0a (z0e 8 (pv 8)) (z0a (z1Z (z4n rfl T.g6 (z0e 10 (pv 10)))) z0d))))) z0F)))) (z0h (z0O z3c)) z0I)
   (z0h (z0O (y5V hr.units (z2D (z0m G__law_refusal (hr.mono nofun) rfl (z0a (z0t (z0e 4 (pv 4)) z0i) (z0a (z0e 8 (pv 8)) (z0a (z2D (pn_fz (z3V (z4n rfl T.g6 (z0e 3 (pv 3)))))) z0d))))) z0F))))))))))))))
end
theorem all_mk{l:dO}{w:fx}{K:aa}{h:Heap}{mg:Str->Option Value}{fa:Addr}(X:K.In h)(G:h.Ns mainGlobals mg)(hfa:mg "law" = some (.ref fa))
  {f_law:Addr} {od0 an0:Option Addr} {sl0:Array (Option Value)} {oc0 kV0 dc0 pm0 cd0 ct0:Value} {C_AskError C_BadOrder C_NotTop C_Unknown:Addr}
  (iX:FnG K "beaten_by" z5v) (iY:FnG K "beats_all" z5e) (hV:FnG K "places_true" z3B) (jj:FnG K "is_thing" z6f) (gu:FnG K "tells_each_once" z1V) (hX:FnG K "order_asked" z3G) (jk:FnG K "is_chain" z6y) (jA:FnG K "beaters" z7I) (jK:FnG K "stands" z9K) (h9:FnG K "crown_paper" z3A) (gR:FnG K "ended_chains" z2k) (jB:FnG K "reached" z7P) (iF:FnG K "steps_from" z4q) (jR:FnG K "rings" y2N) (ia:FnG K "places_with" z3R) (jl:FnG K "top_ring" z6n) (jm:FnG K "row_from" z6d) (iG:FnG K "begun_with" z4o) (jn:FnG K "round_of" z6l) (jC:FnG K "widened" z7v) (jL:FnG K "detour" z9h) (jo:FnG K "to_stand" z6i) (jp:FnG K "to_crown" z6u) (jD:FnG K "to_rest" z7z) (iZ:FnG K "paper_for" z5w) (i4:FnG K "orders_to" z5g) (jq:FnG K "best_for" z6k) (gS:FnG K "_law_cell_at" z3k) (iH:FnG K "_law_whole" z4m) (iI:FnG K "_law_order" z4w) (iJ:FnG K "_law_table" z4t) (iK:FnG K "_law_seven" z4e) (i5:FnG K "_law_copy" z5t) (gM:FnG K "_law_is_order" z2H) (iL:FnG K "_law_stand" z3X) (iM:FnG K "_law_chain" z4l) (i6:FnG K "_law_rest" z5c) (jr:FnG K "_law_led" z6C) (js:FnG K "_law_top" z6q) (gT:FnG K "_law_subsets" z3d) (gv:FnG K "_law_goes_round" z2b) (gU:FnG K "_law_beaters" z3e) (gW:FnG K "_law_crowned" z2Z) (gX:FnG K "_law_refusal" z3g) (jt:FnG K "_law_had" z6e)
  (j5:aD K mainGlobals "law" = some (some (.ref f_law))) (j6:K.lookup f_law=some ⟨oc0,od0,.func (bu "law" "law" (z2J z9g) (z0X z9g) (z0g z9g) .none kV0 dc0 pm0 an0 cd0 ct0),sl0⟩) (c_law:cV K cd0 "law" = true) (j7:bB K (.ref f_law)=true)
  (ig:aD K mainGlobals "AskError" = some (some (.ref C_AskError))) (ju:cr K C_AskError x2x "ValueError.__new__" = true)
  (fX:aD K mainGlobals "BadOrder" = some (some (.ref C_BadOrder))) (jv:cr K C_BadOrder x2x "ValueError.__new__" = true)
  (gB:aD K mainGlobals "NotTop" = some (some (.ref C_NotTop))) (jM:cr K C_NotTop x2x "ValueError.__new__" = true)
  (gf:aD K mainGlobals "Unknown" = some (some (.ref C_Unknown))) (jE:cr K C_Unknown x2x "ValueError.__new__" = true)
  (e_BadOrder_AskError:bK K (.ref C_BadOrder) (.ref C_AskError)=some true) (fR:bK K (.ref C_NotTop) (.ref C_AskError)=some true) (e_Unknown_AskError:bK K (.ref C_Unknown) (.ref C_AskError)=some true)
  (g5:z5q K C_AskError=true) (fZ:z5q K C_BadOrder=true) (gF:z5q K C_NotTop=true) (gn:z5q K C_Unknown=true)
  (gg:aN K (.ref C_BadOrder) (.ref C_Unknown)=some false) (gC:aN K (.ref C_NotTop) (.ref C_Unknown)=some false) (gw:aN K (.ref C_Unknown) (.ref C_Unknown)=some true) (fV:aN K (.ref C_BadOrder) (.type "ValueError")=some true) (f7:aN K (.ref C_NotTop) (.type "ValueError")=some true) (fY:aN K (.ref C_Unknown) (.type "ValueError")=some true) (f8:aN K (.ref C_BadOrder) (.ref C_BadOrder)=some true) (gx:aN K (.ref C_NotTop) (.ref C_BadOrder)=some false) (gi:aN K (.ref C_Unknown) (.ref C_BadOrder)=some false)
  (j8:aD K mainGlobals "all" = some none) (i7:aD K mainGlobals "enumerate" = some none) (j9:aD K mainGlobals "int" = some none) (iN:aD K mainGlobals "isinstance" = some none) (j0:aD K mainGlobals "bool" = some none) (ka:aD K mainGlobals "len" = some none) (jS:aD K mainGlobals "range" = some none) (jN:aD K mainGlobals "sorted" = some none) (kb:aD K mainGlobals "min" = some none) (j1:aD K mainGlobals "list" = some none) (jw:aD K mainGlobals "reversed" = some none) (iO:aD K mainGlobals "ValueError" = some none) (jT:aD K mainGlobals "tuple" = some none):
  ∃fd:fy,(∀(s:dw) (v:Value),BindsTo s fd ⟨[v],[]⟩ [("script",v)])∧∀base:Heap,K.In base->base.Ns mainGlobals mg->FnOk l.prog w K mg base CX0 20 fa fd ["script"] (y3y K y5d):=by
 have e:=hfa.symm.trans (d8 X G j5)
 cases e
 have T:Txt mg:=⟨aX X G j8,aX X G i7,aX X G j9,aX X G iN,aX X G j0,aX X G ka,aX X G jS,aX X G jN,aX X G kb,aX X G j1,aX X G jw,aX X G iO,aX X G jT⟩
 have kg:=fun_mk (st:=z9g) j6 c_law j7
 have b_law:=kg.binds (ps:=j3) fun _ _ _ _ _ _ us hl=>match us,hl with | [_],_=>rfl
 refine⟨bu "law" "law" (z2J z9g) (z0X z9g) (z0g z9g) .none kV0 dc0 pm0 an0 cd0 ct0,fun s v=>.of_eq rfl,fun base KB GB=>?_⟩
 let cl:Nat->Value:=fun n=>match n with | 0=>.ref C_AskError | 1=>.ref C_BadOrder | 2=>.ref C_NotTop | 3=>.ref C_Unknown | _=>.none
 have Z:Cls K mg base cl:=⟨⟨C_AskError,rfl,y4n KB GB ig ju,ig,g5⟩,⟨C_BadOrder,rfl,y4n KB GB fX jv,fX,fZ⟩,⟨C_NotTop,rfl,y4n KB GB gB jM,gB,gF⟩,⟨C_Unknown,rfl,y4n KB GB gf jE,gf,gn⟩,fun C h=>by cases h;exact e_BadOrder_AskError,fun C h=>by cases h;exact fR,fun C h=>by cases h;exact e_Unknown_AskError,fun D hD=>by cases hD;exact z9L (fun C hn=>by cases hn.symm.trans fX;exact gg) (z9L (fun C hn=>by cases hn.symm.trans gB;exact gC) (z9L (fun C hn=>by cases hn.symm.trans gf;exact gw) (j2))),z9L (fun C hn=>by cases hn.symm.trans fX;exact fV) (z9L (fun C hn=>by cases hn.symm.trans gB;exact f7) (z9L (fun C hn=>by cases hn.symm.trans gf;exact fY) (j2))),fun D hD=>by cases hD;exact z9L (fun C hn=>by cases hn.symm.trans fX;exact f8) (z9L (fun C hn=>by cases hn.symm.trans gB;exact gx) (z9L (fun C hn=>by cases hn.symm.trans gf;exact gi) (j2)))⟩
 have G_beats_all:=y1l (P:=l.prog) (w:=w) (base:=base) (fg3 X G iY) T
 have g7:=z8C (P:=l.prog) (w:=w) (base:=base) (fg1 X G hV) T
 have G_beaten_by:=y1m (P:=l.prog) (w:=w) (base:=base) (fg2 X G iX) T g7
 have ja:=y2m (P:=l.prog) (w:=w) (base:=base) (fg2 X G jj) T
 have gq:=z5V (P:=l.prog) (w:=w) (base:=base) (fg2 X G gu) T ja
 have hJ:=z8x (P:=l.prog) (w:=w) (base:=base) (fg2 X G hX) T Z gq
 have jb:=y3l (P:=l.prog) (w:=w) (base:=base) (fg2 X G jk) T G_beats_all
 have gE:=y6d (P:=l.prog) (w:=w) (base:=base) (fg2 X G jA) T G_beats_all
 have jI:=y6K (P:=l.prog) (w:=w) (base:=base) (fg2 X G jK) T jb gE
 have G_ended_chains:=z7f (P:=l.prog) (w:=w) (base:=base) (fg3 X G gR) T
 have g9:=z8o (P:=l.prog) (w:=w) (base:=base) (fg2 X G h9) T G_beaten_by gE jI G_ended_chains
 have iw:=z9b (P:=l.prog) (w:=w) (base:=base) (fg2 X G iF) T G_beaten_by
 have jy:=y5Z (P:=l.prog) (w:=w) (base:=base) (fg2 X G jB) T iw
 have g8:=z8r (P:=l.prog) (w:=w) (base:=base) (fg2 X G ia) T
 have ij:=x0T (P:=l.prog) (w:=w) (base:=base) (fg1 X G jR) T jy g8
 have gl:=y2L (P:=l.prog) (w:=w) (base:=base) (fg1 X G jl) T ij
 have iy:=z9c (P:=l.prog) (w:=w) (base:=base) (fg2 X G iG) T
 have jJ:=y8W (P:=l.prog) (w:=w) (base:=base) (fg4 X G jL) T
 have iQ:=y5j (P:=l.prog) (w:=w) (base:=base) (fg3 X G jC) T jJ
 have ic:=y2E (P:=l.prog) (w:=w) (base:=base) (fg2 X G jn) T iQ
 have gm:=y3k (P:=l.prog) (w:=w) (base:=base) (fg2 X G jm) T Z ij iy ic
 have jc:=y2j (P:=l.prog) (w:=w) (base:=base) (fg2 X G jo) T Z gl gm
 have jd:=y2S (P:=l.prog) (w:=w) (base:=base) (fg2 X G jp) T g9
 have jz:=y5u (P:=l.prog) (w:=w) (base:=base) (fg2 X G jD) T Z gl gm
 have g4:=y1K (P:=l.prog) (w:=w) (base:=base) (fg3 X G iZ) T Z jc jd jz
 have iT:=y0I (P:=l.prog) (w:=w) (base:=base) (fg2 X G i4) T Z g4
 have gp:=y3j (P:=l.prog) (w:=w) (base:=base) (fg3 X G jq) T Z hJ iT
 have G__law_cell_at:=z7J (P:=l.prog) (w:=w) (base:=base) (fg2 X G gS) T
 have G__law_whole:=z9l (P:=l.prog) (w:=w) (base:=base) (fg1 X G iH) T
 have gK:=z9e (P:=l.prog) (w:=w) (base:=base) (fg2 X G iI) T
 have iD:=z9o (P:=l.prog) (w:=w) (base:=base) (fg2 X G iJ) T G__law_cell_at
 have iE:=z9P (P:=l.prog) (w:=w) (base:=base) (fg2 X G iK) T
 have G__law_copy:=y1u (P:=l.prog) (w:=w) (base:=base) (fg1 X G i5) T
 have gL:=z6T (P:=l.prog) (w:=w) (base:=base) (fg2 X G gM) T G__law_whole
 have iB:=z9O (P:=l.prog) (w:=w) (base:=base) (fg2 X G iL) T
 have iC:=z9v (P:=l.prog) (w:=w) (base:=base) (fg2 X G iM) T
 have iU:=y1X (P:=l.prog) (w:=w) (base:=base) (fg2 X G i6) T
 have jh:=y2K (P:=l.prog) (w:=w) (base:=base) (fg3 X G jr) T iB iC iU
 have jg:=y2w (P:=l.prog) (w:=w) (base:=base) (fg1 X G js) T G__law_copy
 have gO:=z7C (P:=l.prog) (w:=w) (base:=base) (fg1 X G gT) T
 have gr:=z5J (P:=l.prog) (w:=w) (base:=base) (fg2 X G gv) T
 have gP:=z7Y (P:=l.prog) (w:=w) (base:=base) (fg2 X G gU) T
 have gQ:=z7W (P:=l.prog) (w:=w) (base:=base) (fg2 X G gW) T gO gr gP
 have G__law_refusal:=z7i (P:=l.prog) (w:=w) (base:=base) (fg3 X G gX) T Z gp
 have ji:=y3c (P:=l.prog) (w:=w) (base:=base) (fg2 X G jt) T jg gQ
 exact law_ofO (kl kg T Z gp G__law_cell_at G__law_whole gK iD iE G__law_copy gL jh G__law_refusal ji)
theorem walk{l:dO}{q:fw}{loose:List Str}{XP:(Str->Option Value)->Heap->Prop}{YP:fx->Heap->Prop}{d:DefRec}{K:Params->aa}(hn:l.most=some 63)(hdf:d.params.defaults=[])
  (hlaw:∀ns:List Int,ns.length≤63->y5d [.scr ns]=some (.bl true)) (hY:∀(w:fx) (h:Heap),YP w h->(K w.params).In h)
  (F:∀(w:fx) (mg:Str->Option Value) (fa:Addr) (h:Heap),(K w.params).In h->h.Ns mainGlobals mg->mg d.name=some (.ref fa) →
   ∃fd:fy,(∀(s:dw) (u:Value),BindsTo s fd ⟨[u],[]⟩ [("script",u)])∧∀base:Heap,(K w.params).In base->base.Ns mainGlobals mg->FnOk l.prog w (K w.params) mg base CX0 20 fa fd ["script"] (y3y (K w.params) y5d)):
  PySem.W.WalkO q loose XP YP l.row.toRowW d [] (fun f vs=>PySem.call f vs):=
 L2.walk_of (n:=63) (k:=20) (x := "script") (CX:=fun _=>CX0) (sp:=fun w=>y3y (K w.params) y5d) hn nofun hdf ⟨rfl,by decide,by decide⟩ hY F (fun _ _ a ns hl hO hS=>⟨x2b hO,a,ns,rfl,x1a hO hS,hlaw ns hl,fun _=>rfl⟩) fun _ _ _ _ _ z=>z
end Prg
namespace Prg
open PySem L2
open Lean in
local macro_rules
 | `(tactic| simp! only[$xs,*] $[$loc]?)=>do
  let a ←(("y7q y9g ev_C ev_d2 ev_d1 x0k y3I y7d x3A x0d x3K ev_if y4u y3D y6q y4h x2M x2X y1b ev_is x2K y6N y7p y9r y9P y0D x3r x0e y8r y6V y6R y8q y9L y8K y8z y9Q x2J y7y x2C x3f x2z ev_m0 y4w y4b x0b y4j y6D y9z y7a x2P y4K y9o x3F y8H y4A y4p y4L y4r y3J y9x x3k y4l x2W x3Q y9V y1v x2Q y9c eo_r1 y4t y8f eo_2 x3E y9f y4q x2F y7L y7e y7Y y6I eo_nx eo_rt x3d x2R x3n y8o y6O x0m y7m x3B eo_in x3D y3x y7F x2E x3s x2G x2Y x3p x3V y3r y9j y6i x3L x1A x2n ea_gt x3y x2U x3R x3J y7J y9J y7O y9A y7Z x3t x3g x3P y6k y9Y x3v y6z y2H y7w y8u y7i y6r x3O x3G es_v1 es_v2 x3e y3S y3V y0R y1f y4s x2I x3I y8T y8v eb_bs eb_ms eb_mn eb_s0 eb_sS eb_mc y8X eb_rS eb_r0 eb_ca eb_na".splitOn " ").toArray).mapM fun s=>`(Lean.Parser.Tactic.simpLemma| $(mkIdent s.toName):term)
  let b:Syntax.TSepArray [`Lean.Parser.Tactic.simpStar,`Lean.Parser.Tactic.simpErase,`Lean.Parser.Tactic.simpLemma] "," := ⟨(Syntax.TSepArray.ofElems (sep := ",") a).elemsAndSeps⟩
  `(tactic| simp only[$b,*,$xs,*] $[$loc]?)
open Lean in
local macro_rules
 | `(tactic| simp_all! only[$xs,*])=>do
  let a ←(("Int.reduceEq Int.reduceLT Int.reduceLE Int.reduceGT Int.reduceAdd Int.reduceSub Int.reduceMul Int.reduceNeg decide_true decide_false Bool.or_false Bool.false_or Bool.or_true Bool.true_or Bool.and_true Bool.true_and Bool.and_false Bool.false_and Bool.not_true Bool.not_false".splitOn " ").toArray).mapM fun s=>`(Lean.Parser.Tactic.simpLemma| $(mkIdent s.toName):term)
  let b:Syntax.TSepArray [`Lean.Parser.Tactic.simpStar,`Lean.Parser.Tactic.simpErase,`Lean.Parser.Tactic.simpLemma] "," := ⟨(Syntax.TSepArray.ofElems (sep := ",") a).elemsAndSeps⟩
  `(tactic| simp! only[$b,*,$xs,*])
theorem z9a(ns:List Int)(k:Nat):∃c:Int,z0p [.scr ns,.int (k:Int)]=some (.int c):=by
 by_cases h:k<ns.length
 ·refine⟨ns[k],z0z rfl ?_⟩
  have h':decide ((k:Int)<(ns.length:Int))=true:=by simp;omega
  simp! only[z2j,h',y1I h,z0c]
 ·refine⟨0,z0z rfl ?_⟩
  have h':decide ((k:Int)<(ns.length:Int))=false:=by simp;omega
  simp! only[z2j,h',z0c]
structure Full(m:Nat)(T:LB):Prop where
 sq:Sq m T
 own:∀i<m,at2 T i i=false
 two:∀i<m,∀j<m,i≠j->at2 T i j = !at2 T j i
theorem y2o{x:Int}{m:Nat}(h:0≤x∧x<(m:Int)):z2G [.int x,.int (m:Int)]=some (.bl true):=by
 refine z0z rfl ?_
 have c:chO leI ltI (some (.int 0)) (some (.int x)) (some (.int (m:Int)))=some (.bl (true&&true)):=y3B (by rw[x2n,decide_eq_true h.1]) (by rw[x1A,decide_eq_true h.2])
 simp_all! only[z4H,c,z0c]
theorem y0H(c:Int)(m:Nat)(hm:m≤1000):hol (z1B [.int c,.int (m:Int)]) fun d=>∃o:List Nat,d=thD o∧o.Perm (ah m):=by
 refine z5o rfl ?_
 simp! only[z4f,z0K (show m≤1000000 by omega),z3E,y3C]
 refine z0G (I:=fun s=>∃(o:List Nat) (c':Int) (o3:Option SD),s=[some (.sh (.int c')),some (.sh (.int (m:Int))),some (.ow (thD o)),o3]∧o.Perm (ah m)) ?_ ?_
 ·refine z3m (fun n s=>∃(o:List Nat) (c':Int) (o3:Option SD),s=[some (.sh (.int c')),some (.sh (.int (m:Int))),some (.ow (thD o)),o3]∧o.Perm (ah n)) ⟨[],c,none,rfl,.nil⟩ ?_ fun s z=>⟨s,rfl,z⟩
  rintro n hn s ⟨o,c',o3,rfl,hp⟩
  have hlen:o.length=n:=by have:=hp.length_eq;simpa using this
  obtain⟨j,ej,hj⟩:=z3I (x:=c') (n:=n+1) ⋯
  have ej:c' % ((n:Int)+1)=(j:Int):=ej
  have m1:z3U (.int c') (.int ((n:Int)+1))=some (.int (j:Int)):=by rw[z2n (show(0:Int)<(n:Int)+1 by omega),ej]
  have v1:z8h (.int c') (.int ((n:Int)+1))=some (.int (c' / ((n:Int)+1))):=z4X (show CDiv _ _ from⟨by omega,by omega⟩)
  have im:y1r (some [.int (j:Int),.int (n:Int)])=some [.int (j:Int),.int (n:Int)]:=z4J rfl
  have iv:=y6J (o:=o) (b:=j) (v:=n) ⋯ ⋯
  simp! only[bC,m1,v1,im,iv,z0c]
  refine⟨_,_,_,rfl,?_⟩
  have p1:(o.take j++n::o.drop j).Perm (n::o):=by
   refine List.perm_middle.trans ?_
   rw[eT]
  refine p1.trans ?_
  rw[cX]
  exact(hp.cons _).trans (List.perm_append_singleton _ _).symm
 ·rintro s ⟨o,c',o3,rfl,hp⟩
  simp! only[z0c]
  exact⟨_,rfl,o,rfl,hp⟩
theorem z3y{o:List Nat}{m:Nat}(h:o.Perm (ah m)):∀x∈o,x<m:=fun _ hx=>ak.mp (h.mem_iff.mp hx)
theorem z1h{o:List Nat}{m:Nat}(h:o.Perm (ah m)):o.length=m:=by simpa using h.length_eq
theorem y7A{o:List Nat}{m:Nat}(h:o.Perm (ah m)):o.Nodup:=h.nodup_iff.mpr cz
theorem y8g(o:List Nat):o.map nD=(o.map fun n=>((n:Nat):Int)).map D.int:=by rw[bp];rfl
theorem x2u(x:Int)(m:Nat):z2G [.int x,.int (m:Int)]=some (.bl (decide (0≤x)&&decide (x<(m:Int)))):=by
 refine z0z rfl ?_
 have c:chO leI ltI (some (.int 0)) (some (.int x)) (some (.int (m:Int)))=some (.bl (decide (0≤x)&&decide (x<(m:Int)))):=y3B x2n x1A
 simp_all! only[z4H,c,z0c]
def tk(m:Nat):List Int->List Int->Bool
 |_,[]=>true
 |p,x::r=>((decide (0≤x)&&decide (x<(m:Int))) && !p.contains x)&&tk m (p++[x]) r
theorem y9B{m:Nat}:∀{o p:List Int},tk m p o=true->(∀x∈o,0≤x∧x<(m:Int))∧o.Nodup∧∀x∈o,x∉p
 |[],_,_=>⟨(fun _ h=>nomatch h),List.Pairwise.nil,(fun _ h=>nomatch h)⟩
 |x::r,p,h=>by
  have h:=aq.mp h
  have h1:=aq.mp h.1
  have h2:=aq.mp h1.1
  obtain⟨a,b,c⟩:=y9B h.2
  have hx:0≤x∧x<(m:Int):=⟨of_decide_eq_true h2.1,of_decide_eq_true h2.2⟩
  have hp:x∉p:=by have:=h1.2;simpa using this
  refine⟨fun y hy=>?_,aA.mpr ⟨fun z=>c x z (by simp),b⟩,fun y hy=>?_⟩
  ·rcases ai.mp hy with z | z
   ·rw[z];exact hx
   ·exact a y z
  ·rcases ai.mp hy with z | z
   ·rw[z];exact hp
   ·exact fun q=>c y z (by simp[q])
def z8c(m:Nat)(o:List Int):Bool:=decide ((o.length:Int)=(m:Int))&&tk m [] o
theorem y4k{p:List Int}{x:Int}:inK (.int x) (z7m p)=some (p.contains x):=by
 show some (y1x (p.map Sum.inl) (.inl x))=_
 congr 1
 unfold y1x
 rw[cU,cQ]
 congr 1
 funext y
 show decide ((Sum.inl y:Key)=Sum.inl x)=(x==y)
 by_cases h:y=x
 ·subst h;simp
 ·have h1:decide ((Sum.inl y:Key)=Sum.inl x)=false:=decide_eq_false fun z=>h (by cases z;rfl)
  have h2:(x==y)=false:=by rw[beq_eq_false_iff_ne];exact fun z=>h z.symm
  rw[h1,h2]
theorem y0c{i:Nat}{b:SS->Option Out}{m:Nat}{d:D}(J:List Int->SS->Prop):∀{o p:List Int} {s:SS},p.length+o.length≤1000000->J p s →
  (∀p x s,p.length≤1000000->J p s->hol (b (s.set i (some (.sh (.int x))))) fun r=>if(((decide (0≤x)&&decide (x<(m:Int))) && !p.contains x))=true then ∃s',r = .nx s'∧J (p++[x]) s' else r = .rt d) →
  hol (z8i i b (o.map .int) s) fun r=>if tk m p o=true then ∃s' p',r = .nx s'∧J p' s' else r = .rt d
 |[],p,s,_,h0,_=>⟨_,rfl,(if_pos rfl).mpr ⟨s,p,rfl,h0⟩⟩
 |x::r,p,s,hn,h0,hs=>by
  have hn:p.length+(r.length+1)≤1000000:=hn
  obtain⟨o,e,q⟩:=hs p x s ⋯ h0
  rw[aH]
  unfold z8i
  rw[e]
  show hol _ fun q=>if(((decide (0≤x)&&decide (x<(m:Int))) && !p.contains x)&&tk m (p++[x]) r)=true then _ else _
  cases hc:((decide (0≤x)&&decide (x<(m:Int))) && !p.contains x)with
  |true=>
   rw[hc,if_pos rfl]at q
   obtain⟨s1,rfl,h1⟩:=q
   rw[cS]
   exact y0c J (by simp;omega) h1 hs
  |false=>
   rw[hc,if_neg av]at q
   subst q
   rw[cJ]
   exact⟨_,rfl,(if_neg av).mpr rfl⟩
theorem ll_il{o:List Int}:((o.map D.int).length:Int)=(o.length:Int):=by rw[ao]
theorem y5R{m:Nat}{o:List Int}(hl:o.length≤1000):z0Y [.lst (o.map .int),.int (m:Int)]=some (.bl (z8c m o)):=by
 refine z0z rfl ?_
 have t0:D.dct [] []=z7m []:=rfl
 unfold z8c
 cases hd:decide ((o.length:Int)=(m:Int))with
 |false=>
  simp_all! only[z0T,ll_il,hd,z0c]
 |true=>
  simp_all! only[z0T,ll_il,hd,t0]
  obtain⟨r,e,q⟩:=y0c (i:=3) (m:=m) (d:=.bl false) (b:=(z0E (ifO (z9S (z2B (z0v (z0k z2G [(z0b 3),(z0b 1)]))) (x0q (z0b 3) (z0b 2))) (z2N (dC (.bl false))) z0P) (dput 2 (z0b 3) (dC (.bl true))))) (fun p s=>∃o3,s=[some (.sh (.lst (o.map .int))),some (.sh (.int (m:Int))),some (.ow (z7m p)),o3]) (o:=o) (p:=[]) (s:=[some (.sh (.lst (o.map .int))),some (.sh (.int (m:Int))),some (.ow (z7m [])),none]) (by simp;omega) ⟨_,rfl⟩ (by
   rintro p x s hp ⟨o3,rfl⟩
   have th:=x2u x m
   cases h1:(decide (0≤x)&&decide (x<(m:Int)))with
   |false=>
    rw[h1]at th
    simp_all! only[th,z0c,bF,if_false]
   |true=>
    rw[h1]at th
    cases h2:p.contains x with
    |true=>
     simp_all! only[th,y4k,h2,z0c,bF,if_false]
    |false=>
     have hx:x∉p:=fun z=>by rw[aw.mpr z]at h2;cases h2
     simp_all! only[th,y4k,h2,y4G hx hp,z0c,if_true]
     exact⟨_,rfl,_,rfl⟩)
  rw[e]
  cases hk:tk m [] o with
  |true=>
   rw[hk,if_pos rfl]at q
   obtain⟨s',p',rfl,o3,rfl⟩:=q
   simp_all! only[z0c]
  |false=>
   rw[hk,if_neg av]at q
   subst q
   simp_all! only[z0c]
theorem y8y{o:List Int}{k:Nat}{x:Int}(h:k<o.length):st0V (some (.lst (o.map .int))) (some (.int (k:Int))) (some (.int x))=some (.lst ((o.set k x).map .int)):=by
 show(ixN (o.map D.int).length (k:Int)).map (fun j=>D.lst ((o.map D.int).set j (.int x)))=_
 rw[x3U (by simpa using h),bQ,←dI]
theorem x1p{m:Nat}{o:List Int}(hl:o.length≤1000)(h0:0<m)(h:z8c m o=false):z1K [.lst (o.map .int),.int (m:Int)]=some (.exc 1):=by
 refine z8f rfl ?_
 have d0:decide ((m:Int)=0)=false:=decide_eq_false ⋯
 have t:=y5R (m:=m) hl
 rw[h]at t
 simp_all! only[z2C,d0,t,z0c]
 exact⟨_,rfl⟩
def z1T(T:LB)(s:Nat)(o:List Nat):Nat:=o.foldl (fun s x=>if at2 T x s=true then x else s) s
theorem z9i{T:LB}{m:Nat}:∀{o:List Nat} {s:Nat},s<m->(∀x∈o,x<m)->z1T T s o<m
 |[],s,h,_=>h
 |x::r,s,h,hx=>by
  show z1T T (if at2 T x s=true then x else s) r<m
  refine z9i ?_ fun y hy=>hx y (ae _ hy)
  split
  ·exact hx x ac
  ·exact h
theorem z7j{m:Nat}{T:LB}(sq:Sq m T){a:Nat}(ha:a<m){th:List Nat}(hl:th.length≤1000)(h:∀x∈th,x<m):z1v [z0q T,.int (a:Int),thD th]=some (.bl (th.all fun j=>at2 T a j)):=by
 refine z0z rfl ?_
 simp! only[z5h,z1D]
 rw[z7w (fun j=>bD (at2 T a j)) hl fun j hj=>by simp! only[nD,ix2 sq ha (h j hj),bD]]
 have e:(th.map fun j=>bD (at2 T a j))=(th.map fun j=>at2 T a j).map bD:=by rw[bp];rfl
 have e2:((th.map fun j=>at2 T a j).all fun b=>b)=th.all fun j=>at2 T a j:=by rw[List.all_map];rfl
 simp! only[e,x2O,e2,z0c]
def z2t(T:LB):List Nat->List Nat
 |[]=>[]
 |a::r=>if(z2t T r).all (fun j=>at2 T a j)=true then a::z2t T r else z2t T r
theorem chBk_sub{T:LB}:∀{o:List Nat},(z2t T o).Sublist o
 |[]=>.slnil
 |a::r=>by
  unfold z2t
  split
  ·exact chBk_sub.cons₂ _
  ·exact chBk_sub.cons _
theorem z7O{T:LB}:∀{r:List Nat} {a:Nat},∃h:z2t T (a::r)≠[],(z2t T (a::r)).getLast h=(a::r).getLast (by simp)
 |[],a=>⟨by simp[z2t],by simp[z2t]⟩
 |b::r,a=>by
  obtain⟨h,e⟩:=z7O (T:=T) (r:=r) (a:=b)
  rw[z2t]
  split
  ·exact⟨by simp,by rw[List.getLast_cons h,e];rfl⟩
  ·exact⟨h,by rw[e];rfl⟩
def prD(z:Nat×Nat):D:=.tup [.int (z.1:Int),.int (z.2:Int)]
def prs(m:Nat):List (Nat×Nat):=(ah m).flatMap fun i=>(ah i).map fun j=>(i,j)
theorem y4i{n:Nat}:prs (n+1)=prs n++(ah n).map fun j=>(n,j):=by
 unfold prs
 rw[cX,List.flatMap_append]
 simp
theorem prs_mem{m:Nat}{z:Nat×Nat}:z∈prs m↔z.1<m∧z.2<z.1:=by
 unfold prs
 rw[List.mem_flatMap]
 constructor
 ·rintro⟨i,hi,h⟩
  obtain⟨j,hj,rfl⟩:=bf.mp h
  exact⟨ak.mp hi,ak.mp hj⟩
 ·rintro⟨h1,h2⟩
  exact⟨z.1,ak.mpr h1,bf.mpr ⟨z.2,ak.mpr h2,rfl⟩⟩
theorem y6Y{m:Nat}:(prs m).length≤m*m:=by
 induction m with
 |zero=>exact ar 0
 |succ n ih=>
  rw[y4i,aB,ao,bJ]
  have:(n+1)*(n+1)=n*n+2*n+1:=by rw[Nat.add_mul,Nat.mul_add];omega
  omega
theorem y1M{ps:List (Nat×Nat)}{z:Nat×Nat}(hl:ps.length≤100000):m0V y2q (some (.lst (ps.map prD))) (some [prD z])=some (.lst ((ps++[z]).map prD)):=by
 show(if(ps.map prD).length<sizeLine then some (ps.map prD++[prD z])else none).map D.lst=_
 rw[ao,if_pos (by rw[PySem.sizeLine_eq];omega),aR]
 rfl
theorem y0O{m i j:Nat}:at2 (ad m (ad m false)) i j=false:=by
 unfold at2
 simp only[cf,bq]
 by_cases h:i<m
 ·simp only[h,if_true,dF,bq]
  by_cases h2:j<m <;> simp[h2]
 ·simp[h]
theorem z7B{T:LB}{i j a b:Nat}{v:Bool}(hi:i<T.length)(hj:j<T[i].length):at2 (T.set i (T[i].set j v)) a b=if a=i∧b=j then v else at2 T a b:=by
 unfold at2
 by_cases h:a=i
 ·subst h
  simp only[cf,cj hi,dF,am hi]
  by_cases h2:b=j
  ·subst h2
   simp[hj]
  ·simp[h2,aW (Ne.symm h2)]
 ·simp only[cf,aW (Ne.symm h)]
  simp[h]
structure Prt(m:Nat)(T:LB)(ps:List (Nat×Nat)):Prop where
 sq:Sq m T
 own:∀i<m,at2 T i i=false
 two:∀z∈ps,z.2<z.1->at2 T z.1 z.2 = !at2 T z.2 z.1
theorem Prt.next{m:Nat}{T:LB}{ps:List (Nat×Nat)}(P:Prt m T ps){z:Nat×Nat}(h1:z.1<m)(h2:z.2<z.1){b:Int}(hb:b=0∨b=1)(ha:z.1<T.length)(hc:z.2<(T.set z.1 (T[z.1].set z.2 (decide (b=1)))).length):
  Prt m ((T.set z.1 (T[z.1].set z.2 (decide (b=1)))).set z.2 ((T.set z.1 (T[z.1].set z.2 (decide (b=1))))[z.2].set z.1 (decide (b=0)))) (ps++[z]):=by
 have k2:z.2<T[z.1].length:=by rw[P.sq.row ha];omega
 have sq1:Sq m (T.set z.1 (T[z.1].set z.2 (decide (b=1)))):=P.sq.set ha
 have k4:z.1<(T.set z.1 (T[z.1].set z.2 (decide (b=1))))[z.2].length:=by rw[sq1.row hc];exact h1
 have e:∀x y,at2 ((T.set z.1 (T[z.1].set z.2 (decide (b=1)))).set z.2 ((T.set z.1 (T[z.1].set z.2 (decide (b=1))))[z.2].set z.1 (decide (b=0)))) x y=if x=z.2∧y=z.1 then decide (b=0)else if x=z.1∧y=z.2 then decide (b=1)else at2 T x y:=fun x y=>by
  rw[z7B hc k4,z7B ha k2]
 refine⟨sq1.set hc,fun i hi=>?_,fun w hw h=>?_⟩
 ·rw[e,if_neg ⋯,if_neg ⋯]
  exact P.own i hi
 ·rw[e,e]
  by_cases q:w.1=z.1∧w.2=z.2
  ·rw[if_neg ⋯,if_pos q,if_pos ⟨q.2,q.1⟩]
   rcases hb with rfl | rfl <;> rfl
  ·rw[if_neg ⋯,if_neg q,if_neg ⋯,if_neg ⋯]
   rcases au.mp hw with z1 | z1
   ·exact P.two w z1 h
   ·rw[ag]at z1
    exact absurd ⟨congrArg Prod.fst z1,congrArg Prod.snd z1⟩ q
theorem Prt.full{m:Nat}{T:LB}(P:Prt m T (prs m)):Full m T:=⟨P.sq,P.own,fun i hi j hj hij=>by
 by_cases h:j<i
 ·exact P.two (i,j) (prs_mem.mpr ⟨hi,h⟩) h
 ·rw[P.two (j,i) (prs_mem.mpr ⟨hj,by omega⟩) (by show i<j;omega),Bool.not_not]⟩
theorem tab0{m:Nat}(hm:m≤1000){ns:List Int}{a2 a3 a4 a5 a6 a7 a8 a9:Option D}:z1C (some (z5y 0 m)) (z1N z5z (z0u (x1s (mkL (z0j [dC (.bl false)])) (z0b 1))) [some (.scr ns),some (.int (m:Int)),a2,a3,a4,a5,a6,a7,a8,a9])=some ((ad m (ad m false)).map z3n):=by
 rw[z1W,z7w (fun _=>z3n (ad m false)) (by simp;omega) fun x hx=>?_]
 ·congr 1
  apply List.ext_getElem <;> simp
 ·have e:(ad m (D.bl false))=(ad m false).map bD:=by rw[dB];rfl
  simp! only[y2t (show m≤1000000 by omega),e,z4u (z2a _)]
  rfl
def ib(b:List Int):Prop:=∀x∈b,x=0∨x=1
theorem x3q{b:List Int}{k:Nat}{x:Int}(h:ib b)(hx:x=0∨x=1):ib (b.set k x):=fun y hy=>by
 rcases cM hy with z | z
 ·exact h y z
 ·rw[z];exact hx
theorem pr_0{z:Nat×Nat}:ixD (prD z) (.int 0)=some (.int (z.1:Int)):=(rfl)
theorem pr_1{z:Nat×Nat}:ixD (prD z) (.int 1)=some (.int (z.2:Int)):=(rfl)
theorem y4D{ps:List (Nat×Nat)}:((ps.map prD).length:Int)=(ps.length:Int):=by rw[ao]
theorem x1o(ns:List Int)(hns:ns.length≤63)(m:Nat)(hm:m≤8):hol (z2S [.scr ns,.int (m:Int)]) fun d=>∃T,d=z0q T∧Full m T:=by
 refine z5o rfl ?_
 obtain⟨c1,e1⟩:=z9a ns 1
 have e1:z0p [.scr ns,.int 1]=some (.int c1):=e1
 have ms:z3U (.int c1) (.int 1000003)=some (.int (c1 % 1000003)):=z2n ⋯
 obtain⟨sd,hsd⟩:∃sd,sd=c1 % 1000003:=⟨_,rfl⟩
 have hsd2:0≤sd∧sd<1000003:=by rw[hsd];exact⟨Int.emod_nonneg _ ⋯,Int.emod_lt_of_pos _ ⋯⟩
 rw[←hsd]at ms
 have m3:z3U (.int sd) (.int 3)=some (.int (sd % 3)):=z2n ⋯
 have tl:D.lst ((ad m (ad m false)).map z3n)=z0q (ad m (ad m false)):=rfl
 have hL:(prs m).length≤64:=aI y6Y (Nat.mul_le_mul hm hm)
 simp! only[z4b,e1,ms,z0K (show m≤1000000 by omega),tab0 (show m≤1000 by omega),tl,z3E]
 refine z0G (I:=fun s=>∃o5 o6,s=[some (.sh (.scr ns)),some (.sh (.int (m:Int))),some (.sh (.int sd)),some (.ow (z0q (ad m (ad m false)))),some (.ow (.lst ((prs m).map prD))),o5,o6,none,none,none]) ?_ ?_
 ·refine z3m (fun n s=>∃o5 o6,s=[some (.sh (.scr ns)),some (.sh (.int (m:Int))),some (.sh (.int sd)),some (.ow (z0q (ad m (ad m false)))),some (.ow (.lst ((prs n).map prD))),o5,o6,none,none,none]) ⟨_,_,rfl⟩ ?_ fun s z=>⟨s,rfl,z⟩
  rintro n hn s ⟨o5,o6,rfl⟩
  have hnl:(prs n).length≤64:=aI y6Y (Nat.mul_le_mul (show n≤8 by omega) (show n≤8 by omega))
  simp! only[bC,z0K (show n≤1000000 by omega)]
  refine z3m (fun j s=>∃o6,s=[some (.sh (.scr ns)),some (.sh (.int (m:Int))),some (.sh (.int sd)),some (.ow (z0q (ad m (ad m false)))),some (.ow (.lst ((prs n++(ah j).map fun j=>(n,j)).map prD))),some (.sh (.int (n:Int))),o6,none,none,none]) ⟨o6,by simp⟩ ?_ ?_
  ·rintro j hj s ⟨o6,rfl⟩
   have im:y1r (some [.tup [.int (n:Int),.int (j:Int)]])=some [prD (n,j)]:=z4J rfl
   have ap:=y1M (ps:=prs n++(ah j).map fun j=>(n,j)) (z:=(n,j)) (by simp;omega)
   simp! only[bC,im,ap,z0c]
   refine⟨some (.sh (.int (j:Int))),?_⟩
   have e:(prs n++(ah j).map fun j=>(n,j))++[(n,j)]=prs n++(ah (j+1)).map fun j=>(n,j):=by rw[cX,aR,←aP];rfl
   rw[e]
  ·rintro s ⟨o6,rfl⟩
   rw[←y4i]
   exact⟨_,_,rfl⟩
 ·rintro s ⟨o5,o6,rfl⟩
  obtain⟨ps,hps⟩:∃ps,ps=prs m:=⟨_,rfl⟩
  rw[←hps]at hL ⊢
  have rp:(ad ps.length (D.int 0))=(ad ps.length (0:Int)).map .int:=by rw[dB]
  have fl:z4j (some ((ad ps.length (0:Int)).map D.int))=some ((ad ps.length (0:Int)).map .int):=z4u (z9B _)
  simp! only[y4D,y2t (show ps.length≤1000000 by omega),rp,fl,z0K (show ps.length≤1000000 by omega)]
  refine z0G (I:=fun s=>∃b o5 o6 o8,s=[some (.sh (.scr ns)),some (.sh (.int (m:Int))),some (.sh (.int sd)),some (.ow (z0q (ad m (ad m false)))),some (.sh (.lst (ps.map prD))),o5,o6,some (.ow (.lst (b.map .int))),o8,none]∧b.length=ps.length∧ib b) ?_ ?_
  ·refine z3m (fun n s=>∃b o5 o6 o8,s=[some (.sh (.scr ns)),some (.sh (.int (m:Int))),some (.sh (.int sd)),some (.ow (z0q (ad m (ad m false)))),some (.sh (.lst (ps.map prD))),o5,o6,some (.ow (.lst (b.map .int))),o8,none]∧b.length=ps.length∧ib b) ⟨ad ps.length 0,_,_,_,rfl,by simp,fun x hx=>.inl (eG hx)⟩ ?_ fun s z=>⟨s,rfl,z⟩
   rintro n hn s ⟨b,o5,o6,o8,rfl,hb,hi⟩
   by_cases h3:sd % 3>0
   ·have d3:decide (sd % 3>0)=true:=decide_eq_true h3
    have u1:x3M (.int 7919) (.int (n:Int))=some (.int (7919*(n:Int))):=y9C (.inl ⟨by omega,by omega⟩)
    have u2:x3M (.int (7919*(n:Int))) (.int (n:Int))=some (.int (7919*(n:Int)*(n:Int))):=y9C (.inr ⟨by omega,by omega⟩)
    obtain⟨w,hw⟩:∃w:Int,w=48271+7919*(n:Int)*(n:Int):=⟨_,rfl⟩
    have u3:x3M (.int sd) (.int w)=some (.int (sd*w)):=y9C (.inl ⟨by omega,by omega⟩)
    have u4:z3U (.int (sd*w)) (.int 2147483647)=some (.int (sd*w % 2147483647)):=z2n ⋯
    have u5:z8h (.int (sd*w % 2147483647)) (.int 1024)=some (.int (sd*w % 2147483647 / 1024)):=z4X ⟨by omega,by omega⟩
    have u6:z3U (.int (sd*w % 2147483647 / 1024)) (.int 2)=some (.int (sd*w % 2147483647 / 1024 % 2)):=z2n ⋯
    simp! only[bC,m3,d3,u1,u2,←hw,u3,u4,u5,u6,y8y (show n<b.length by omega),z0c]
    exact⟨_,_,_,_,rfl,by simp[hb],x3q hi (Int.emod_two_eq _)⟩
   ·have d3:decide (sd % 3>0)=false:=decide_eq_false h3
    simp! only[m3,d3,z0c]
    exact⟨_,_,_,_,rfl,hb,hi⟩
  ·rintro s ⟨b,o5,o6,o8,rfl,hb,hi⟩
   have r3:rng2 (some (.int 3)) (some (.int (ns.length:Int)))=some (z5y 3 ((ns.length:Int) - 3).toNat):=eo_rng2 ⟨by omega,by omega,by omega,by omega⟩
   simp! only[r3]
   refine z0G (I:=fun s=>∃b o5 o6 o8 o9,s=[some (.sh (.scr ns)),some (.sh (.int (m:Int))),some (.sh (.int sd)),some (.ow (z0q (ad m (ad m false)))),some (.sh (.lst (ps.map prD))),o5,o6,some (.ow (.lst (b.map .int))),o8,o9]∧b.length=ps.length∧ib b) ?_ ?_
   ·refine z3m (fun n s=>∃b o5 o6 o8 o9,s=[some (.sh (.scr ns)),some (.sh (.int (m:Int))),some (.sh (.int sd)),some (.ow (z0q (ad m (ad m false)))),some (.sh (.lst (ps.map prD))),o5,o6,some (.ow (.lst (b.map .int))),o8,o9]∧b.length=ps.length∧ib b) ⟨_,_,_,_,_,rfl,hb,hi⟩ ?_ fun s z=>⟨s,rfl,z⟩
    rintro n hn s ⟨b,o5,o6,o8,o9,rfl,hb,hi⟩
    by_cases h0:0<ps.length
    ·have d0:decide ((ps.length:Int)>0)=true:=decide_eq_true ⋯
     obtain⟨j,ej,hj⟩:=z3I (x:=3+(n:Int)) (n:=ps.length) h0
     have mj:z3U (.int (3+(n:Int))) (.int (ps.length:Int))=some (.int (j:Int)):=by rw[z2n ⋯,ej]
     have hk:3+n<ns.length:=by omega
     have sx:(atI ns (3+(n:Int))).map D.int=some (.int ns[3+n]):=by
      have e:(3+(n:Int))=((3+n:Nat):Int):=by omega
      rw[e,z2q (am hk)]
      rfl
     have ab:atI (b.map D.int) (j:Int)=some (.int (b[j]'⋯)):=z2q (by rw[am (by simp;omega),bN])
     obtain⟨w,hw⟩:∃w:Int,w=b[j]'⋯+ns[3+n]:=⟨_,rfl⟩
     have m2:z3U (.int w) (.int 2)=some (.int (w % 2)):=z2n ⋯
     simp! only[y4D,d0,mj,sx,ab,←hw,m2,y8y (show j<b.length by omega),z0c]
     exact⟨_,_,_,_,_,rfl,by simp[hb],x3q hi (Int.emod_two_eq _)⟩
    ·have d0:decide ((ps.length:Int)>0)=false:=decide_eq_false ⋯
     simp! only[y4D,d0,z0c]
     exact⟨_,_,_,_,_,rfl,hb,hi⟩
   ·rintro s ⟨b,o5,o6,o8,o9,rfl,hb,hi⟩
    simp! only[y4D,z0K (show ps.length≤1000000 by omega)]
    refine z0G (I:=fun s=>∃T o5 o6 o8 o9,s=[some (.sh (.scr ns)),some (.sh (.int (m:Int))),some (.sh (.int sd)),some (.ow (z0q T)),some (.sh (.lst (ps.map prD))),o5,o6,some (.ow (.lst (b.map .int))),o8,o9]∧Prt m T ps) ?_ ?_
    ·refine z3m (fun n s=>∃T o5 o6 o8 o9,s=[some (.sh (.scr ns)),some (.sh (.int (m:Int))),some (.sh (.int sd)),some (.ow (z0q T)),some (.sh (.lst (ps.map prD))),o5,o6,some (.ow (.lst (b.map .int))),o8,o9]∧Prt m T (ps.take n)) ⟨ad m (ad m false),_,_,_,_,rfl,⟨⟨by simp,by simp⟩,fun _ _=>y0O,fun z hz=>by simp at hz⟩⟩ ?_ ?_
     ·rintro n hn s ⟨T,o5,o6,o8,o9,rfl,P⟩
      have hz:ps[n].1<m∧ps[n].2<ps[n].1:=by
       have:ps[n]∈prs m:=by rw[←hps];exact bM _
       exact prs_mem.mp this
      have hbn:b[n]'⋯=0∨b[n]'⋯=1:=hi _ (bM _)
      have h1:ps[n].1<T.length:=by rw[P.sq.1];exact hz.1
      have h2:ps[n].2<T[ps[n].1].length:=by rw[P.sq.row h1];omega
      have e1:=z5F (v:=decide (b[n]'⋯=1)) h1 h2
      have sq1:Sq m (T.set ps[n].1 (T[ps[n].1].set ps[n].2 (decide (b[n]'⋯=1)))):=P.sq.set h1
      have h3:ps[n].2<(T.set ps[n].1 (T[ps[n].1].set ps[n].2 (decide (b[n]'⋯=1)))).length:=by rw[sq1.1];omega
      have h4:ps[n].1<(T.set ps[n].1 (T[ps[n].1].set ps[n].2 (decide (b[n]'⋯=1))))[ps[n].2].length:=by rw[sq1.row h3];exact hz.1
      have e2:=z5F (v:=decide (b[n]'⋯=0)) h3 h4
      have ip:=z2q (xs:=ps.map prD) (j:=n) (by rw[am (by simpa using hn),bN])
      have ab:atI (b.map D.int) (n:Int)=some (.int (b[n]'⋯)):=z2q (by rw[am (by simp;omega),bN])
      have nx:=P.next hz.1 hz.2 hbn h1 h3
      have et:ps.take n++[ps[n]]=ps.take (n+1):=by rw[dG,am hn];rfl
      rw[et]at nx
      simp! only[bC,ip,pr_0,pr_1,ab,e1,e2,z0c]
      exact⟨_,_,_,_,_,rfl,nx⟩
     ·rintro s ⟨T,o5,o6,o8,o9,rfl,P⟩
      rw[aS (ar _)]at P
      exact⟨_,rfl,_,_,_,_,_,rfl,P⟩
    ·rintro s ⟨T,o5,o6,o8,o9,rfl,P⟩
     rw[hps]at P
     simp! only[z0c]
     exact⟨_,rfl,T,rfl,P.full⟩
theorem z7t{T:LB}{s x:Nat}{o:List Nat}:z1T T s (o++[x])=if at2 T x (z1T T s o)=true then x else z1T T s o:=by unfold z1T;rw[List.foldl_append];rfl
theorem x0Z{m:Nat}{T:LB}(sq:Sq m T){a:Nat}{r:List Nat}(h:∀x∈a::r,x<m):z2R [z0q T,thD (a::r)]=some (.int ((z1T T a r:Nat):Int)):=by
 refine z0z rfl ?_
 simp! only[z4x,ix0,x0E,y2b,z1D,eJ,List.tail_cons]
 refine z0G (I:=fun s=>∃o3,s=[some (.sh (z0q T)),some (.sh (thD (a::r))),some (.sh (.int ((z1T T a r:Nat):Int))),o3]) ?_ ?_
 ·refine z1q (fun pre s=>∃o3,s=[some (.sh (z0q T)),some (.sh (thD (a::r))),some (.sh (.int ((z1T T a pre:Nat):Int))),o3]) ⟨_,rfl⟩ ?_ fun s z=>⟨s,rfl,z⟩
  rintro pre x post e s ⟨o3,rfl⟩
  have hx:=h x (by rw[e];simp)
  have hs:z1T T a pre<m:=z9i (h a ac) fun y hy=>h y (by rw[e];simp[hy])
  rw[z7t]
  simp! only[nD,ix2 sq hx hs]
  cases at2 T x (z1T T a pre)with
  |true=>simp! only[z0c];exact⟨_,rfl⟩
  |false=>simp! only[z0c];exact⟨_,rfl⟩
 ·rintro s ⟨o3,rfl⟩
  simp! only[z0c]
theorem rest_eq{m:Nat}{T:LB}(sq:Sq m T){o:List Nat}{l:Nat}{q:List Nat}(hr:o.reverse=l::q)(h:∀x∈l::q,x<m):z3N [z0q T,thD o]=some (.int ((z1T T l q:Nat):Int)):=by
 refine z0z rfl ?_
 have hne:o≠[]:=fun z=>by rw[z]at hr;cases hr
 have il:=x1b (th:=o) hne
 have hl:o.getLast hne=l:=by
  have h1:o.reverse.head? = some l:=by rw[hr];rfl
  rw[List.head?_reverse,List.getLast?_eq_some_getLast hne]at h1
  exact Option.some.inj h1
 rw[hl]at il
 obtain⟨w,hw⟩:∃w,w=l::q:=⟨_,rfl⟩
 rw[←hw]at hr
 simp! only[z5l,il,y6X,hr]
 refine z0G (I:=fun s=>∃o3,s=[some (.sh (z0q T)),some (.sh (thD o)),some (.sh (.int ((z1T T l q:Nat):Int))),o3]) ?_ ?_
 ·refine z1q (fun pre s=>∃o3,s=[some (.sh (z0q T)),some (.sh (thD o)),some (.sh (.int ((z1T T l pre:Nat):Int))),o3]) ⟨_,rfl⟩ ?_ ?_
  ·rintro pre x post e s ⟨o3,rfl⟩
   have hx:=h x (by rw[←hw,e];simp)
   have hs:z1T T l pre<m:=z9i (h l ac) fun y hy=>h y (by rw[←hw,e];simp[hy])
   rw[z7t]
   simp! only[nD,ix2 sq hx hs]
   cases at2 T x (z1T T l pre)with
   |true=>simp! only[z0c];exact⟨_,rfl⟩
   |false=>simp! only[z0c];exact⟨_,rfl⟩
  ·rintro s ⟨o3,rfl⟩
   have e:z1T T l w=z1T T l q:=by
    rw[hw]
    show z1T T (if at2 T l l=true then l else l) q=_
    split <;> rfl
   rw[e]
   exact⟨_,rfl,_,rfl⟩
 ·rintro s ⟨o3,rfl⟩
  simp! only[z0c]
theorem y8F{m:Nat}{T:LB}(sq:Sq m T)(hm:m≤900){o:List Nat}(hp:o.Perm (ah m)):z2T [z0q T,thD o]=some (thD (z2t T o)):=by
 refine z0z rfl ?_
 have hlt:=z3y hp
 have hlen:=z1h hp
 simp! only[z4d,z3E,y3C,y6X]
 refine z0G (I:=fun s=>∃o3,s=[some (.sh (z0q T)),some (.sh (thD o)),some (.ow (thD (z2t T o))),o3]) ?_ ?_
 ·refine z1q (fun pre s=>∃o3,s=[some (.sh (z0q T)),some (.sh (thD o)),some (.ow (thD (z2t T pre.reverse))),o3]) ⟨_,rfl⟩ ?_ fun s ⟨o3,z⟩=>⟨s,rfl,o3,by rw[z,c9]⟩
  rintro pre x post e s ⟨o3,rfl⟩
  have hx:=hlt x (by rw[←List.mem_reverse,e];simp)
  have hsub:=chBk_sub (T:=T) (o:=pre.reverse)
  have hpl:pre.length≤m:=by
   have:o.reverse.length=(pre++x::post).length:=by rw[e]
   simp at this
   omega
  have hl:(z2t T pre.reverse).length≤900:=by
   have:=hsub.length_le
   rw[b8]at this
   omega
  have hc:∀y∈z2t T pre.reverse,y<m:=fun y hy=>hlt y (by
   have:=hsub.subset hy
   rw[←List.mem_reverse,e]
   simp at this
   simp[this])
  have er:(pre++[x]).reverse=x::pre.reverse:=by simp
  rw[er,z2t]
  have ba:decide ((((List.map nD ((z2t T pre.reverse).filter fun j=>!at2 T x j)).length:Nat):Int)=0)=(z2t T pre.reverse).all fun j=>at2 T x j:=by
   rw[ao]
   cases hz:(z2t T pre.reverse).all fun j=>at2 T x j with
   |true=>
    have:(z2t T pre.reverse).filter (fun j=>!at2 T x j)=[]:=aT.mpr fun y hy=>by rw[az.mp hz y hy];simp
    rw[this]
    rfl
   |false=>
    refine decide_eq_false fun w=>?_
    have w:((z2t T pre.reverse).filter fun j=>!at2 T x j)=[]:=bx.mp ⋯
    rw[aT]at w
    rw[dL]at hz
    obtain⟨y,hy,hn⟩:=hz
    exact w y hy (by simpa using hn)
  have cx:z1C (some ((z2t T pre.reverse).map nD)) (z1N (z2B (z0v (d2 ixD (d2 ixD (z0b 0) (z0b 3)) (z0b 4)))) (z0b 4) [some (z0q T),some (thD o),some (thD (z2t T pre.reverse)),some (.int (x:Int))])=some (((z2t T pre.reverse).filter fun j=>!at2 T x j).map nD):=
   z5H (fun j=>!at2 T x j) nD ⋯ (fun j hj=>by simp! only[nD,ix2 sq hx (hc j hj)]) fun j hj _=>by simp! only[]
  have im:y1r (some [.int 0,.int (x:Int)])=some [.int 0,.int (x:Int)]:=z4J rfl
  have iv:m0V insF (some (thD (z2t T pre.reverse))) (some [.int 0,.int (x:Int)])=some (thD (x::z2t T pre.reverse)):=by
   have:=y6J (o:=z2t T pre.reverse) (b:=0) (v:=x) ⋯ ⋯
   simpa using this
  simp! only[nD,z1D,cx,ba]
  cases (z2t T pre.reverse).all fun j=>at2 T x j with
  |true=>simp! only[im,iv,z0c,if_true];exact⟨_,rfl⟩
  |false=>simp! only[z0c,bF,if_false];exact⟨_,rfl⟩
 ·rintro s ⟨o3,rfl⟩
  simp! only[z0c]
theorem z2u{a b:Str}{c:Bool}(h1:okP (.str a)=true)(h2:okP (.str b)=true)(h:PyData.eqv (.str a) (.str b)=c):eqD (.str a) (.str b)=some (.bl c):=by
 unfold eqD
 rw[h1,h2]
 show some (D.bl (PyData.eqv (.str a) (.str b)))=_
 rw[h]
theorem k_pp:eqD (.str "plain") (.str "plain")=some (.bl true):=z2u (by decide +kernel) (by decide +kernel) (by decide +kernel)
theorem k_ap:eqD (.str "ahead") (.str "plain")=some (.bl false):=z2u (by decide +kernel) (by decide +kernel) (by decide +kernel)
theorem k_aa:eqD (.str "ahead") (.str "ahead")=some (.bl true):=z2u (by decide +kernel) (by decide +kernel) (by decide +kernel)
theorem k_rp:eqD (.str "rest") (.str "plain")=some (.bl false):=z2u (by decide +kernel) (by decide +kernel) (by decide +kernel)
theorem k_ra:eqD (.str "rest") (.str "ahead")=some (.bl false):=z2u (by decide +kernel) (by decide +kernel) (by decide +kernel)
theorem k_rr:eqD (.str "rest") (.str "rest")=some (.bl true):=z2u (by decide +kernel) (by decide +kernel) (by decide +kernel)
theorem y1V{r0:List Bool}:∀(r:List Bool) (k:Nat),z1O (two (z4v (z0v (z0b 2)) (z0b 1) [some (z3n r0)])) (z0B k (r.map bD))=some ((z4U k r).map nD)
 |[],_=>rfl
 |b::r,k=>by
  have ih:=y1V (r0:=r0) r (k+1)
  rw[aH]
  show z1O _ (.tup [.int (k:Nat),bD b]::z0B (k+1) (r.map bD))=_
  unfold z1O
  rw[ih]
  have e:two (z4v (z0v (z0b 2)) (z0b 1) [some (z3n r0)]) (.tup [.int (k:Nat),bD b])=some (if b=true then some (nD k)else none):=by
   show z4v _ _ _ _ _=_
   unfold z4v
   have e1:z0v (z0b 2) ([some (z3n r0)]++[some (.int (k:Nat)),some (bD b)])=some b:=rfl
   rw[e1]
   cases b <;> rfl
  have t:z4U k (b::r)=if b=true then k::z4U (k+1) r else z4U (k+1) r:=rfl
  rw[e,t]
  cases b <;> rfl
theorem y9l(r:List Bool)(hl:r.length≤1000):z2x [z3n r]=some (thD ((ah r.length).filter fun i=>r.getD i false)):=by
 refine z0z rfl ?_
 have e:z4U 0 r=(ah r.length).filter fun i=>r.getD i false:=by
  rw[y9k,eZ]
  rfl
 have h0:y2R (z3n r)=some (z0B 0 (r.map bD)):=rfl
 have hl':(z0B 0 (r.map bD)).length≤1000000:=by rw[z7K,ao];omega
 have fl:=z4u (y0P (z4U 0 r))
 simp! only[z3P,h0,z5i hl',y1V,fl,z0c]
 rw[e]
 rfl
theorem y0U{n:Nat}{T:LB}(sq:Sq n T)(hn:n≤1000){k:Nat}(hk:k<n):z1u [z0q T,.int (k:Int)]=some (thD ((ah n).filter fun j=>at2 T k j)):=by
 refine z0z rfl ?_
 have hk':k<T.length:=by rw[sq.1];exact hk
 have p:=y9l (T.getD k []) (by rw[sq.len hk];omega)
 rw[sq.len hk]at p
 simp! only[z5f,y8d hk',p,z0c]
 rfl
def ky(n:Nat):Key:=.inl (n:Int)
def stD(ks:List Nat)(vs:List Nat):D:=.dct (ks.map ky) (vs.map nD)
theorem y7v{ks vs:List Nat}{y:Nat}:inK (.int (y:Int)) (stD ks vs)=some (ks.contains y):=by
 show some (y1x (ks.map ky) (.inl (y:Int)))=_
 congr 1
 unfold y1x
 rw[cU,cQ]
 congr 1
 funext z
 show decide ((Sum.inl (z:Int):Key)=Sum.inl (y:Int))=(y==z)
 by_cases h:z=y
 ·subst h;simp
 ·have h1:decide ((Sum.inl (z:Int):Key)=Sum.inl (y:Int))=false:=decide_eq_false fun e=>h (by cases e;rfl)
  have h2:(y==z)=false:=by rw[beq_eq_false_iff_ne];exact fun e=>h e.symm
  rw[h1,h2]
theorem st_put{ks vs:List Nat}{x y:Nat}(h:y∉ks)(hl:ks.length≤1000000):y9m (some (stD ks vs)) (some (.int (y:Int))) (some (.int (x:Int)))=some (stD (ks++[y]) (vs++[x])):=by
 show(if z2d (vs.map nD)=true∧(ks.map ky).length<sizeLine then _ else _)=_
 rw[if_pos ⟨y0P vs,by rw[ao,PySem.sizeLine_eq];omega⟩]
 have hh:y1x (ks.map ky) (.inl (y:Int))=false:=by
  have:=y7v (ks:=ks) (vs:=vs) (y:=y)
  have hc:ks.contains y=false:=by rw[←br,aw];exact h
  rw[hc]at this
  exact Option.some.inj this
 unfold y1C y1w stD
 rw[hh,if_neg av,if_neg av,aR,aR]
 rfl
inductive Rch(T:LB)(m a:Nat):Nat->Prop
 |here:Rch T m a a
 |step {x y:Nat}:Rch T m a x->y<m->at2 T x y=true->Rch T m a y
structure Stp(T:LB)(m a:Nat)(ks:List Nat):Prop where
 nd:ks.Nodup
 lt:∀x∈ks,x<m
 on:a∈ks
 rc:∀x∈ks,Rch T m a x
def Cld(T:LB)(m:Nat)(ks:List Nat)(x:Nat):Prop:=∀y<m,at2 T x y=true->y∈ks
theorem Stp.add{T:LB}{m a x y:Nat}{ks:List Nat}(P:Stp T m a ks)(hx:x∈ks)(hy:y<m)(h:at2 T x y=true)(hn:y∉ks):Stp T m a (ks++[y]):=
 ⟨aO.mpr ⟨P.nd,by simp,fun u hu v hv z=>by rw[ag]at hv;exact hn (hv ▸ z ▸ hu)⟩,fun z hz=>by
  rcases au.mp hz with q | q
  ·exact P.lt z q
  ·rw[ag.mp q];exact hy,au.mpr (.inl P.on),fun z hz=>by
  rcases au.mp hz with q | q
  ·exact P.rc z q
  ·rw[ag.mp q];exact .step (P.rc x hx) hy h⟩
theorem Stp.len{T:LB}{m a:Nat}{ks:List Nat}(P:Stp T m a ks):ks.length≤m:=by
 have:=List.Nodup.length_le_of_subset (l₂:=ah m) P.nd fun x hx=>ak.mpr (P.lt x hx)
 simpa using this
theorem x2i{m:Nat}{T:LB}(sq:Sq m T)(hm:m≤90){a:Nat}(ha:a<m):hol (z2X [z0q T,.int (a:Int)]) fun d=>∃ks vs,d=stD ks vs∧Stp T m a ks∧∀x∈ks,Cld T m ks x:=by
 refine z5o rfl ?_
 have s0:D.dct [.inl (a:Int)] [.int (a:Int)]=stD [a] [a]:=rfl
 have f0:z4j (some [.int (a:Int)])=some [.int (a:Int)]:=rfl
 simp! only[z4y,s0,f0,th_one]
 refine z0G (I:=fun s=>∃ks vs o3 o4 o5 o6,s=[some (.sh (z0q T)),some (.sh (.int (a:Int))),some (.ow (stD ks vs)),o3,o4,o5,o6]∧Stp T m a ks∧∀x∈ks,Cld T m ks x) ?_ ?_
 ·refine z5M (fun n s=>∃ks vs E o5 o6,s=[some (.sh (z0q T)),some (.sh (.int (a:Int))),some (.ow (stD ks vs)),some (.ow (thD E)),none,o5,o6]∧Stp T m a ks∧(∀x∈E,x∈ks)∧(∀x∈ks,x∉E->Cld T m ks x)∧(E≠[]->m+1≤ks.length+n)) (n:=m) ⟨[a],[a],[a],_,_,rfl,⟨by simp,fun x hx=>by rw[ag.mp hx];exact ha,by simp,fun x hx=>by rw[ag.mp hx];exact .here⟩,fun x hx=>hx,fun x hx hn=>absurd hx hn,fun _=>by simp;omega⟩ ?_ ⋯
  rintro n s ⟨ks,vs,E,o5,o6,rfl,P,hE,hC,hn⟩
  refine⟨!E.isEmpty,by simp! only[tru_th],fun hz=>?_,fun hz=>?_⟩
  ·have hz:E=[]:=by simpa using hz
   exact⟨_,rfl,ks,vs,_,_,_,_,rfl,P,fun x hx=>hC x hx (by rw[hz];simp)⟩
  ·have hz:E≠[]:=by simpa using hz
   have hn:=hn hz
   have hl:=P.len
   refine⟨n - 1,by omega,?_⟩
   simp! only[z3E,y3C,z1D]
   refine z0G (I:=fun s=>∃F ws o5 o6,s=[some (.sh (z0q T)),some (.sh (.int (a:Int))),some (.ow (stD (ks++F) ws)),some (.sh (thD E)),some (.ow (thD F)),o5,o6]∧Stp T m a (ks++F)∧∀x∈E,Cld T m (ks++F) x) ?_ ?_
   ·refine z1q (fun pre s=>∃F ws o5 o6,s=[some (.sh (z0q T)),some (.sh (.int (a:Int))),some (.ow (stD (ks++F) ws)),some (.sh (thD E)),some (.ow (thD F)),o5,o6]∧Stp T m a (ks++F)∧∀x∈pre,Cld T m (ks++F) x) ⟨[],vs,_,_,by rw[aF],by rw[aF];exact P,fun x hx=>nomatch hx⟩ ?_ fun s z=>⟨s,rfl,z⟩
    rintro pre x post e s ⟨F,ws,o5,o6,rfl,P1,C1⟩
    have hxE:x∈E:=by rw[e];simp
    have hxk:=hE x hxE
    have hxm:=P.lt x hxk
    simp! only[nD,y0U sq (show m≤1000 by omega) hxm,z1D]
    refine z1q (fun q s=>∃F ws o6,s=[some (.sh (z0q T)),some (.sh (.int (a:Int))),some (.ow (stD (ks++F) ws)),some (.sh (thD E)),some (.ow (thD F)),some (.sh (.int (x:Int))),o6]∧Stp T m a (ks++F)∧(∀x∈pre,Cld T m (ks++F) x)∧∀y∈q,y∈ks++F) ⟨F,ws,_,rfl,P1,C1,fun y hy=>nomatch hy⟩ ?_ ?_
    ·rintro q y r e2 s ⟨F,ws,o6,rfl,P2,C2,Q2⟩
     have hy:y∈(ah m).filter fun j=>at2 T x j:=by rw[e2];simp
     have hy:=af.mp hy
     have hym:=ak.mp hy.1
     have hl2:=P2.len
     cases hc:(ks++F).contains y with
     |true=>
      simp! only[nD,y7v,hc,bQ,eL,z0c]
      refine⟨F,ws,_,rfl,P2,C2,fun z hz=>?_⟩
      rcases au.mp hz with z1 | z1
      ·exact Q2 z z1
      ·rw[ag.mp z1];exact aw.mp hc
     |false=>
      have hny:y∉ks++F:=fun z=>by rw[aw.mpr z]at hc;cases hc
      have im:y1r (some [.int (y:Int)])=some [.int (y:Int)]:=z4J rfl
      have pt:=st_put (vs:=ws) (x:=x) hny ⋯
      have ap:=y9v (th:=F) (k:=y) (by rw[aB]at hl2;omega)
      have P3:=P2.add (au.mpr (.inl hxk)) hym hy.2 hny
      rw[aP]at P3 pt
      have sub:∀z,z∈ks++F->z∈ks++(F++[y]):=fun z hz=>by rw[←aP];exact au.mpr (.inl hz)
      simp! only[nD,y7v,hc,bQ,el,pt,im,ap,z0c]
      refine⟨F++[y],_,_,rfl,P3,fun z hz w hw h=>sub w (C2 z hz w hw h),fun z hz=>?_⟩
      rcases au.mp hz with z1 | z1
      ·exact sub z (Q2 z z1)
      ·rw[ag.mp z1];simp
    ·rintro s ⟨F,ws,o6,rfl,P2,C2,Q2⟩
     refine⟨F,ws,_,_,rfl,P2,fun z hz=>?_⟩
     rcases au.mp hz with z1 | z1
     ·exact C2 z z1
     ·rw[ag.mp z1]
      exact fun y hy h=>Q2 y (af.mpr ⟨ak.mpr hy,h⟩)
   ·rintro s ⟨F,ws,o5,o6,rfl,P1,C1⟩
    simp! only[z0c]
    refine⟨ks++F,ws,F,_,_,rfl,P1,fun x hx=>au.mpr (.inr hx),fun x hx hnx=>?_,fun hF=>?_⟩
    ·have hxk:x∈ks:=by
      rcases au.mp hx with z | z
      ·exact z
      ·exact absurd z hnx
     by_cases hxE:x∈E
     ·exact C1 x hxE
     ·exact fun y hy h=>au.mpr (.inl (hC x hxk hxE y hy h))
    ·have:0<F.length:=b9.mpr hF
     rw[aB]
     omega
 ·rintro s ⟨ks,vs,o3,o4,o5,o6,rfl,P,C⟩
  simp! only[z0c]
  exact⟨_,rfl,ks,vs,rfl,P,C⟩
open Classical in
noncomputable def rcL(T:LB)(m a:Nat):List Nat:=(ah m).filter fun x=>decide (Rch T m a x)
theorem rcL_mem{T:LB}{m a x:Nat}:x∈rcL T m a↔x<m∧Rch T m a x:=by
 unfold rcL
 rw[af,ak]
 exact and_congr_right fun _=>@decide_eq_true_iff _ (Classical.propDecidable _)
theorem rcL_len{T:LB}{m a:Nat}:(rcL T m a).length≤m:=by
 have:=bd (fun x=>@decide (Rch T m a x) (Classical.propDecidable _)) (ah m)
 rw[bJ]at this
 exact this
theorem x0g:∀ks:List Nat,z5P (ks.map ky)=some (ks.map fun n=>((n:Nat):Int))
 |[]=>rfl
 |k::ks=>by
  show(z5P (ks.map ky)).map (fun ns=>(k:Int)::ns)=_
  rw[x0g ks]
  rfl
theorem y5W{m:Nat}{T:LB}(sq:Sq m T)(hm:m≤60){a:Nat}(ha:a<m):z4i [z0q T,.int (a:Int)]=some (thD (rcL T m a)):=by
 refine z0z rfl ?_
 obtain⟨d,e,ks,vs,rfl,P,C⟩:=x2i sq ⋯ ha
 have hl:=P.len
 have hin:∀x,x∈ks↔x∈rcL T m a:=fun x=>by
  rw[rcL_mem]
  refine⟨fun h=>⟨P.lt x h,P.rc x h⟩,fun h=>?_⟩
  have:∀y,Rch T m a y->y∈ks:=fun y r=>by
   induction r with
   |here=>exact P.on
   |step r1 hy h ih=>exact C _ ih _ hy h
  exact this x h.2
 have nd2:(rcL T m a).Nodup:=List.Pairwise.filter _ cz
 have pm:((rcL T m a).map fun n=>((n:Nat):Int)).Perm (ks.map fun n=>((n:Nat):Int)):=((bY nd2 P.nd).mpr fun x=>(hin x).symm).map _
 have so:((rcL T m a).map fun n=>((n:Nat):Int)).Pairwise (· ≤ ·):=by
  rw[bV]
  refine List.Pairwise.imp ?_ (List.Pairwise.filter _ bR)
  intro x y h
  omega
 have es:=z9F pm so
 have st:y0G [stD ks vs]=some ((rcL T m a).map nD):=by
  show((z5P (ks.map ky)).bind fun ns=>if ns.length<64 then some ((y0p ns).map D.int)else none)=_
  rw[x0g,aj,if_pos (by rw[ao];omega),←es,bp]
  rfl
 simp! only[z7M,e,st,z1U,y2b,z0c]
noncomputable def y5e(T:LB)(m:Nat):List Nat:=(ah m).map fun a=>(rcL T m a).length
def plL(cs:List Nat)(c:Nat):List Nat:=(cs.zipIdx.filter fun z=>decide ((z.1:Int)=(c:Int))).map fun z=>z.2
theorem plL_mem{cs:List Nat}{c i:Nat}:i∈plL cs c↔cs[i]? = some c:=by
 unfold plL
 rw[bf]
 constructor
 ·rintro⟨z,hz,rfl⟩
  obtain⟨h1,h2⟩:=af.mp hz
  have h2:z.1=c:=by have:=of_decide_eq_true h2;omega
  have:=dY.mp h1
  rw[this,h2]
 ·intro h
  exact⟨(c,i),af.mpr ⟨dY.mpr h,decide_eq_true rfl⟩,rfl⟩
theorem y5M{cs:List Nat}(hl:cs.length≤1000)(c:Nat):z1L [thD cs,.int (c:Int)]=some (thD (plL cs c)):=by
 refine z0z rfl ?_
 have cx:z1C (some (z0B 0 (cs.map nD))) (two (z4v (z0D (d2 eqD (z0b 3) (z0b 1))) (z0b 2) [some (thD cs),some (.int (c:Int))]))=some ((plL cs c).map nD):=by
  rw[x3C (enc:=nD) (fun _ x=>decide ((x:Int)=(c:Int))) (fun i _=>nD i) hl (fun i h=>by simp! only[nD]) fun i h _=>by simp! only[];rfl]
  unfold plL
  rw[bp]
  rfl
 simp! only[z3O,y6H,cx,z1U,y2b,z0c]
def dnL(m:Nat):List Nat:=(ah m).map fun i=>m - i
noncomputable def rgL(T:LB)(m:Nat):List (List Nat):=((dnL m).filter fun c=>(y5e T m).contains c).map fun c=>plL (y5e T m) c
theorem eo_rngN{i j c:Int}(h:c = -1∧-(2 ^ 61)≤i∧i<2 ^ 61∧-(2 ^ 61)≤j∧j<2 ^ 61):rngN (some (.int i)) (some (.int j)) (some (.int c))=some (y8I i (-1) (i - j).toNat):=if_pos h
theorem y4m{m:Nat}{T:LB}(sq:Sq m T)(hm:m≤60):z5Z [z0q T]=some (.lst ((rgL T m).map thD)):=by
 refine z0z rfl ?_
 have hcl:(y5e T m).length=m:=by simp[y5e]
 have c1:z1C (some (z5y 0 m)) (z1N z5z (z0k z1M [z0k z4i [z0b 0,z0b 2]]) [some (z0q T),none])=some ((y5e T m).map nD):=by
  rw[z1W,z7w (enc:=nD) (xs:=ah m) (fun a=>nD (rcL T m a).length) (by simp;omega) fun a ha=>by simp! only[nD,y5W sq hm (ak.mp ha),z2I]]
  unfold y5e
  rw[bp]
  rfl
 have rn:rngN (some (.int (m:Int))) (some (.int 0)) (some (.int (-1)))=some ((dnL m).map nD):=by
  have hz:((m:Int) - 0).toNat=m:=by omega
  have e1:rngN (some (.int (m:Int))) (some (.int 0)) (some (.int (-1)))=some (y8I (m:Int) (-1) ((m:Int) - 0).toNat):=eo_rngN ⟨rfl,by omega,by omega,by omega,by omega⟩
  have e2:y8I (m:Int) (-1) m=(dnL m).map nD:=by
   unfold y8I dnL
   rw[bp]
   refine dg fun i hi=>?_
   have:=ak.mp hi
   have e:(m:Int)+(i:Int)*(-1)=((m - i:Nat):Int):=by omega
   exact congrArg D.int e
  rw[e1,hz,e2]
 have c2:z1C (some ((dnL m).map nD)) (z1N (z0D (d2 inD (z0b 2) (z0b 1))) (z0k z1L [z0b 1,z0b 2]) [some (z0q T),some (thD (y5e T m))])=some ((rgL T m).map thD):=by
  rw[z5H (enc:=nD) (xs:=dnL m) (fun c=>(y5e T m).contains c) (fun c=>thD (plL (y5e T m) c)) (by simp[dnL];omega) (fun c hc=>by simp! only[nD,x3T]) fun c hc _=>by simp! only[nD,y5M (show(y5e T m).length≤1000 by omega)]]
  unfold rgL
  rw[bp]
  rfl
 simp! only[y2g,z2r,sq.1,z0K (show m≤1000000 by omega),c1,z1U,y2b,rn,c2,z0c]
theorem Rch.trans{T:LB}{m a b c:Nat}(h:Rch T m a b)(h2:Rch T m b c):Rch T m a c:=by
 induction h2 with
 |here=>exact h
 |step _ hy e ih=>exact .step ih hy e
theorem rch_tot{T:LB}{m a b:Nat}(F:Full m T)(ha:a<m)(hb:b<m):Rch T m a b∨Rch T m b a:=by
 by_cases e:a=b
 ·rw[e];exact .inl .here
 ·cases h:at2 T a b with
  |true=>exact .inl (.step .here hb h)
  |false=>exact .inr (.step .here ha (by rw[F.two b hb a ha (Ne.symm e),h];rfl))
theorem x2S{T:LB}{m a:Nat}:(rcL T m a).Nodup:=List.Pairwise.filter _ cz
theorem z7A{T:LB}{m a b:Nat}(F:Full m T)(ha:a<m)(hb:b<m):Rch T m a b↔(rcL T m b).length≤(rcL T m a).length:=by
 constructor
 ·intro h
  exact List.Nodup.length_le_of_subset x2S fun x hx=>rcL_mem.mpr ⟨(rcL_mem.mp hx).1,h.trans (rcL_mem.mp hx).2⟩
 ·intro h
  by_cases hn:Rch T m a b
  ·exact hn
  ·have h2:Rch T m b a:=(rch_tot F ha hb).resolve_left hn
   have nd:(b::rcL T m a).Nodup:=aA.mpr ⟨fun z=>hn (rcL_mem.mp z).2,x2S⟩
   have:(b::rcL T m a).length≤(rcL T m b).length:=List.Nodup.length_le_of_subset nd fun x hx=>by
    rcases ai.mp hx with z | z
    ·rw[z];exact rcL_mem.mpr ⟨hb,.here⟩
    ·exact rcL_mem.mpr ⟨(rcL_mem.mp z).1,h2.trans (rcL_mem.mp z).2⟩
   rw[bc]at this
   omega
theorem y1O{T:LB}{m a b:Nat}(F:Full m T)(ha:a<m)(hb:b<m)(h:(rcL T m b).length<(rcL T m a).length):at2 T a b=true:=by
 cases e:at2 T a b with
 |true=>rfl
 |false=>
  have hab:a≠b:=fun z=>by rw[z]at h;omega
  have h1:Rch T m b a:=.step .here ha (by rw[F.two b hb a ha (Ne.symm hab),e];rfl)
  have:=(z7A F hb ha).mp h1
  omega
theorem rch_pos{T:LB}{m a:Nat}(ha:a<m):0<(rcL T m a).length:=List.length_pos_of_mem (rcL_mem.mpr ⟨ha,.here⟩)
theorem uniqL{α:Type}{R:α->α->Prop}(as:∀x y,R x y->R y x->False):∀{l l':List α},l.Pairwise R->l'.Pairwise R->(∀x,x∈l↔x∈l')->l=l'
 |[],[],_,_,_=>rfl
 |[],b::l',_,_,h=>by have:=(h b).mpr ac;cases this
 |a::l,[],_,_,h=>by have:=(h a).mp ac;cases this
 |a::l,b::l',p,p',h=>by
  have p1:=aM.mp p
  have p2:=aM.mp p'
  have e:a=b:=by
   rcases ai.mp ((h a).mp ac)with z | z
   ·exact z
   ·rcases ai.mp ((h b).mpr ac)with y | y
    ·exact y.symm
    ·exact(as a b (p1.1 b y) (p2.1 a z)).elim
  subst e
  refine congrArg _ (uniqL as p1.2 p2.2 fun x=>⟨fun hx=>?_,fun hx=>?_⟩)
  ·rcases ai.mp ((h x).mp (ae _ hx))with z | z
   ·subst z;exact(as x x (p1.1 x hx) (p1.1 x hx)).elim
   ·exact z
  ·rcases ai.mp ((h x).mpr (ae _ hx))with z | z
   ·subst z;exact(as x x (p2.1 x hx) (p2.1 x hx)).elim
   ·exact z
def Upp(f:Nat->Nat)(r s:List Nat):Prop:=r≠[]∧s≠[]∧∀a∈r,∀b∈s,f b<f a
def cls(m:Nat)(f:Nat->Nat)(a:Nat):List Nat:=(ah m).filter fun b=>decide (f b=f a)
structure Rgs(m:Nat)(f:Nat->Nat)(L:List (List Nat)):Prop where
 pw:L.Pairwise (Upp f)
 mem:∀r,r∈L↔∃a<m,r=cls m f a
theorem y5B{cs:List Nat}{c:Nat}:(plL cs c).Pairwise (· < ·):=by
 unfold plL
 rw[bV]
 refine List.Pairwise.filter _ ?_
 have h:(cs.zipIdx.map fun z=>z.2).Pairwise (· < ·):=by
  rw[show(cs.zipIdx.map fun z=>z.2)=dc 0 cs.length from List.zipIdx_map_snd 0 cs]
  exact List.pairwise_lt_range'
 exact bV.mp h
theorem z6D{T:LB}{m:Nat}:Rgs m (fun a=>(rcL T m a).length) (rgL T m):=by
 have hc:∀a c,(y5e T m)[a]? = some c↔a<m∧(rcL T m a).length=c:=fun a c=>by
  unfold y5e
  rw[aG]
  by_cases h:a<m
  ·rw[cI h]
   simp[h]
  ·rw[cv (by simp;omega)]
   simp[h]
 have pe:∀a<m,plL (y5e T m) (rcL T m a).length=cls m (fun a=>(rcL T m a).length) a:=fun a ha=>
  uniqL (R:=(· < ·)) (fun x y h h'=>by omega) y5B (List.Pairwise.filter _ bR) fun x=>by
   rw[plL_mem,hc]
   unfold cls
   rw[af,ak,decide_eq_true_iff]
 refine⟨?_,fun r=>?_⟩
 ·unfold rgL
  rw[bV]
  have hd:(dnL m).Pairwise (· > ·):=by
   unfold dnL
   rw[bV]
   refine List.Pairwise.imp_of_mem ?_ bR
   intro x y hx hy h
   have:=ak.mp hy
   show m - y<m - x
   omega
  refine List.Pairwise.imp_of_mem ?_ (List.Pairwise.filter _ hd)
  intro c d hcm hdm hcd
  have hcm:=(af.mp hcm).2
  have hdm:=(af.mp hdm).2
  obtain⟨i,hi⟩:=df (aw.mp hcm)
  obtain⟨j,hj⟩:=df (aw.mp hdm)
  refine⟨dA (plL_mem.mpr hi),dA (plL_mem.mpr hj),fun a ha b hb=>?_⟩
  have h1:=(hc a c).mp (plL_mem.mp ha)
  have h2:=(hc b d).mp (plL_mem.mp hb)
  show(rcL T m b).length<(rcL T m a).length
  have:c>d:=hcd
  omega
 ·unfold rgL
  rw[bf]
  constructor
  ·rintro⟨c,hcm,rfl⟩
   have hcm:=(af.mp hcm).2
   obtain⟨i,hi⟩:=df (aw.mp hcm)
   have h1:=(hc i c).mp hi
   exact⟨i,h1.1,by rw[←h1.2,pe i h1.1]⟩
  ·rintro⟨a,ha,rfl⟩
   refine⟨(rcL T m a).length,af.mpr ⟨?_,aw.mpr (de ((hc a _).mpr ⟨ha,rfl⟩))⟩,pe a ha⟩
   unfold dnL
   have h1:=rcL_len (T:=T) (m:=m) (a:=a)
   have h2:=rch_pos (T:=T) ha
   exact bf.mpr ⟨m - (rcL T m a).length,ak.mpr ⋯,by omega⟩
def wk(T:LB):Nat->List Nat->Prop
 |_,[]=>True
 |x,y::r=>at2 T x y=true∧wk T y r
def lsN:Nat->List Nat->Nat
 |x,[]=>x
 |_,y::r=>lsN y r
theorem z5n:∀{a:List Nat} {x:Nat} {b:List Nat},lsN x (a++b)=lsN (lsN x a) b
 |[],_,_=>rfl
 |_::a,_,b=>z5n (a:=a) (b:=b)
theorem wk_app{T:LB}:∀{a:List Nat} {x:Nat} {b:List Nat},wk T x (a++b)↔wk T x a∧wk T (lsN x a) b
 |[],_,_=>⟨fun h=>⟨trivial,h⟩,fun h=>h.2⟩
 |y::a,x,b=>by
  have ih:=wk_app (T:=T) (a:=a) (x:=y) (b:=b)
  constructor
  ·rintro⟨h1,h2⟩
   exact⟨⟨h1,(ih.mp h2).1⟩,(ih.mp h2).2⟩
  ·rintro⟨⟨h1,h2⟩,h3⟩
   exact⟨h1,ih.mpr ⟨h2,h3⟩⟩
theorem y6Q:∀{a:List Nat} {x:Nat},lsN x a∈x::a
 |[],_=>ac
 |y::a,x=>ae _ (y6Q (a:=a) (x:=y))
theorem y3z{a:List Nat}{c x:Nat}:lsN c (a++[x])=x:=z5n
structure Cyc(T:LB)(c:Nat)(r:List Nat):Prop where
 nd:(c::r).Nodup
 wk:wk T c r
 cl:r≠[]->at2 T (lsN c r) c=true
inductive Det(T:LB)(L:List Nat)(h b:Nat):List Nat->Prop
 |one {x:Nat}:x∈L->at2 T h x=true->at2 T x b=true->Det T L h b [x]
 |two {x y:Nat}:x∈L->y∈L->at2 T h x=true->at2 T x y=true->at2 T y b=true->Det T L h b [x,y]
def y2X(T:LB)(L:List Nat)(h b:Nat):Prop:=(∀x∈L,at2 T h x=true->at2 T x b=true->False)∧∀x∈L,∀y∈L,at2 T h x=true->at2 T x y=true->at2 T y b=true->False
theorem Det.wk{T:LB}{L:List Nat}{h b:Nat}{w:List Nat}(D:Det T L h b w):wk T h w∧at2 T (lsN h w) b=true∧w≠[]∧(∀x∈w,x∈L):=by
 cases D with
 |one h1 h2 h3=>exact⟨⟨h2,trivial⟩,h3,by simp,fun x hx=>by rw[ag.mp hx];exact h1⟩
 |two h1 h2 h3 h4 h5=>exact⟨⟨h3,h4,trivial⟩,h5,by simp,fun x hx=>by
   rcases ai.mp hx with z | z
   ·rw[z];exact h1
   ·rw[ag.mp z];exact h2⟩
theorem Det.nd{m:Nat}{T:LB}(own:∀i<m,at2 T i i=false){L:List Nat}(lt:∀x∈L,x<m){h b:Nat}{w:List Nat}(D:Det T L h b w):w.Nodup:=by
 cases D with
 |one h1 h2 h3=>simp
 | @two x y h1 h2 h3 h4 h5=>
  have:x≠y:=fun z=>by
   subst z
   rw[own x (lt x h1)]at h4
   cases h4
  simp[this]
theorem Cyc.put{m:Nat}{T:LB}(own:∀i<m,at2 T i i=false){c:Nat}{a b:List Nat}(C:Cyc T c (a++b)){L w:List Nat}(lt:∀x∈L,x<m)(hL:∀x∈L,x∉c::(a++b))(D:Det T L (lsN c a) (b.headD c) w):Cyc T c (a++w++b):=by
 obtain⟨d1,d2,d3,d4⟩:=D.wk
 have hw:=D.nd own lt
 have cw:=wk_app.mp C.wk
 refine⟨?_,?_,fun _=>?_⟩
 ·have p:(c::(a++w++b)).Perm (w++(c::(a++b))):=by
   have p1:(a++w++b).Perm (w++(a++b)):=by
    rw[←aP w a b]
    exact(c5 (l₁:=a) (l₂:=w)).append_right b
   exact(p1.cons c).trans List.perm_middle.symm
  rw[p.nodup_iff,aO]
  exact⟨hw,C.nd,fun x hx y hy e=>hL x (d4 x hx) (e ▸ hy)⟩
 ·rw[wk_app,wk_app,z5n]
  refine⟨⟨cw.1,d1⟩,?_⟩
  cases b with
  |nil=>exact trivial
  |cons y b=>exact⟨d2,cw.2.2⟩
 ·rw[z5n,z5n]
  cases b with
  |nil=>exact d2
  |cons y b=>
   have:=C.cl (by simp)
   rw[z5n]at this
   exact this
theorem Cyc.all{c:Nat}{r:List Nat}{P:Nat->Prop}(H:∀pre x post,c::r=pre++x::post->P x->P (post.headD c)){x:Nat}(hx:x∈c::r)(hp:P x):∀y∈c::r,P y:=by
 have h0:∀(post pre:List Nat) (x:Nat),c::r=pre++x::post->P x->P c:=fun post=>by
  induction post with
  |nil=>exact fun pre x e h=>H pre x [] e h
  |cons y post ih=>exact fun pre x e h=>ih (pre++[x]) y (by rw[e];simp) (H pre x (y::post) e h)
 obtain⟨pre,post,e⟩:=dD hx
 have hc:=h0 post pre x e hp
 have h1:∀(post pre:List Nat) (x:Nat),c::r=pre++x::post->P x->∀y∈x::post,P y:=fun post=>by
  induction post with
  |nil=>exact fun pre x e h y hy=>by rw[ag.mp hy];exact h
  |cons z post ih=>
   intro pre x e h y hy
   rcases ai.mp hy with q | q
   ·rw[q];exact h
   ·exact ih (pre++[x]) z (by rw[e];simp) (H pre x (z::post) e h) y q
 exact h1 r [] c rfl hc
def Stg(T:LB)(R:List Nat):Prop:=∀S:Nat->Prop,(∃x∈R,S x)->(∃y∈R,¬S y)->∃x∈R,∃y∈R,S x∧¬S y∧at2 T x y=true
theorem Full.tot{m:Nat}{T:LB}(F:Full m T){x y:Nat}(hx:x<m)(hy:y<m)(hne:x≠y):at2 T x y=true∨at2 T y x=true:=by
 have:=F.two x hx y hy hne
 cases h:at2 T x y with
 |true=>exact .inl rfl
 |false=>
  rw[h]at this
  cases h2:at2 T y x with
  |true=>exact .inr rfl
  |false=>rw[h2]at this;cases this
theorem Full.no{m:Nat}{T:LB}(F:Full m T){x y:Nat}(hx:x<m)(hy:y<m)(h1:at2 T x y=true)(h2:at2 T y x=true):False:=by
 by_cases hne:x=y
 ·subst hne
  rw[F.own x hx]at h1
  cases h1
 ·have:=F.two x hx y hy hne
  rw[h1,h2]at this
  cases this
theorem Cyc.full{m:Nat}{T:LB}(F:Full m T){R:List Nat}(lt:∀x∈R,x<m)(hR:Stg T R){c:Nat}{r:List Nat}(hsub:∀x∈c::r,x∈R){L:List Nat}(hL:∀x,x∈L↔x∈R∧x∉c::r)(no:∀pre x post,c::r=pre++x::post->y2X T L x (post.headD c)):∀x∈R,x∈c::r:=by
 intro z0 hz0
 apply Classical.byContradiction
 intro hn0
 have hd:∀{pre:List Nat} {x:Nat} {post:List Nat},c::r=pre++x::post->post.headD c∈c::r:=fun {pre x post} e=>by
  cases post with
  |nil=>exact ac
  |cons y post=>rw[e];simp
 have two:∀z∈L,∀x∈c::r,at2 T x z=true->∀y∈c::r,at2 T y z=true:=fun z hz x hx hxz=>by
  obtain⟨hzR,hzn⟩:=(hL z).mp hz
  refine Cyc.all (P:=fun x=>at2 T x z=true) (fun pre x post e hp=>?_) hx hxz
  have hb:=hd e
  have hne:post.headD c≠z:=fun q=>hzn (q ▸ hb)
  rcases F.tot (lt _ (hsub _ hb)) (lt z hzR) hne with w | w
  ·exact w
  ·exact absurd w fun w=>(no pre x post e).1 z hz hp w
 obtain⟨x1,hx1,b,hb,s1,s2,hxb⟩:=hR (fun x=>x∈c::r) ⟨c,hsub c ac,ac⟩ ⟨z0,hz0,hn0⟩
 have hbL:b∈L:=(hL b).mpr ⟨hb,s2⟩
 have hbB:=two b hbL x1 s1 hxb
 obtain⟨x2,hx2,a,ha,t1,t2,hxa⟩:=hR (fun z=>z∈L∧∀y∈c::r,at2 T y z=true) ⟨b,hb,hbL,hbB⟩ ⟨c,hsub c ac,fun q=>((hL c).mp q.1).2 ac⟩
 have hac:a∉c::r:=fun q=>F.no (lt x2 hx2) (lt a ha) hxa (t1.2 a q)
 have haL:a∈L:=(hL a).mpr ⟨ha,hac⟩
 have haA:∀y∈c::r,at2 T a y=true:=fun y hy=>by
  have hne:a≠y:=fun q=>hac (q ▸ hy)
  rcases F.tot (lt a ha) (lt y (hsub y hy)) hne with w | w
  ·exact w
  ·exact absurd ⟨haL,two a haL y hy w⟩ t2
 exact(no [] c r rfl).2 x2 t1.1 a haL (t1.2 c ac) hxa (haA _ (hd (pre:=[]) (x:=c) (post:=r) rfl))
theorem x1Z{m:Nat}{T:LB}(F:Full m T){a:Nat}:Stg T (cls m (fun a=>(rcL T m a).length) a):=by
 rintro S ⟨x0,hx0,sx⟩ ⟨y0,hy0,sy⟩
 apply Classical.byContradiction
 intro hn
 obtain⟨hx1,hx2⟩:=af.mp hx0
 obtain⟨hy1,hy2⟩:=af.mp hy0
 have hx1:=ak.mp hx1
 have hy1:=ak.mp hy1
 have hx2:(rcL T m x0).length=(rcL T m a).length:=of_decide_eq_true hx2
 have hy2:(rcL T m y0).length=(rcL T m a).length:=of_decide_eq_true hy2
 have hr:Rch T m x0 y0:=(z7A F hx1 hy1).mpr ⋯
 have key:∀z,Rch T m x0 z->z<m∧((rcL T m z).length<(rcL T m a).length∨((rcL T m z).length=(rcL T m a).length∧S z)):=fun z h=>by
  induction h with
  |here=>exact⟨hx1,.inr ⟨hx2,sx⟩⟩
  | @step x y _ hy hxy ih=>
   refine⟨hy,?_⟩
   have le:(rcL T m y).length≤(rcL T m x).length:=(z7A F ih.1 hy).mp (.step .here hy hxy)
   rcases ih.2 with q | ⟨q1,q2⟩
   ·exact .inl ⋯
   ·by_cases hc:(rcL T m y).length=(rcL T m a).length
    ·refine .inr ⟨hc,Classical.byContradiction fun ns=>hn ⟨x,af.mpr ⟨ak.mpr ih.1,decide_eq_true q1⟩,y,af.mpr ⟨ak.mpr hy,decide_eq_true hc⟩,q2,ns,hxy⟩⟩
    ·exact .inl ⋯
 rcases (key y0 hr).2 with q | q
 ·omega
 ·exact sy q.2
theorem z5X{x:Option Out}{b:SS->Option Out}{I:SS->Prop}{Q:D->Prop}(h:hol x fun o=>(∃s,o = .nx s∧I s)∨∃d,o = .rt d∧Q d)(k:∀s,I s->hol (b s) fun o=>∃d,o = .rt d∧Q d):hol (z9N x b) fun o=>∃d,o = .rt d∧Q d:=by
 obtain⟨o,rfl,q⟩:=h
 rcases q with⟨s,rfl,q⟩ | ⟨d,rfl,q⟩
 ·exact k s q
 ·exact⟨_,rfl,d,rfl,q⟩
theorem y8a{m:Nat}{T:LB}(sq:Sq m T){h b:Nat}(hh:h<m)(hb:b<m){L:List Nat}(lt:∀x∈L,x<m):hol (z5A [z0q T,.int (h:Int),.int (b:Int),thD L]) fun d=>∃w,d=thD w∧(Det T L h b w∨(w=[]∧y2X T L h b)):=by
 refine z5o rfl ?_
 simp! only[y0f,z1D]
 refine z5X (I:=fun s=>∃o4,s=[some (.sh (z0q T)),some (.sh (.int (h:Int))),some (.sh (.int (b:Int))),some (.sh (thD L)),o4,none]∧∀x∈L,at2 T h x=true->at2 T x b=true->False) ?_ ?_
 ·refine z1q (enc:=nD) (fun pre s=>∃o4,s=[some (.sh (z0q T)),some (.sh (.int (h:Int))),some (.sh (.int (b:Int))),some (.sh (thD L)),o4,none]∧∀x∈pre,at2 T h x=true->at2 T x b=true->False) ⟨_,rfl,fun x hx=>(by cases hx)⟩ ?_ fun s z=>.inl ⟨s,rfl,z⟩
  rintro pre x post e s ⟨o4,rfl,hp⟩
  have hxL:x∈L:=by rw[e];simp
  have hx:=lt x hxL
  have w1:z4j (some [D.int (x:Int)])=some ([x].map nD):=rfl
  have i1:=ix2 sq hh hx
  have i2:=ix2 sq hx hb
  obtain⟨p,h1⟩:∃p,at2 T h x=p:=⟨_,rfl⟩
  obtain⟨q,h2⟩:∃q,at2 T x b=q:=⟨_,rfl⟩
  rw[h1]at i1
  rw[h2]at i2
  have more:(p&&q)=false->∀y∈pre++[x],at2 T h y=true->at2 T y b=true->False:=fun hk y hy=>by
   rcases au.mp hy with z | z
   ·exact hp y z
   ·rw[ag.mp z,h1,h2]
    intro g1 g2
    rw[g1,g2]at hk
    cases hk
  cases hpq:p&&q with
  |false=>
   have mr:=more hpq
   simp! only[nD,i1,i2,hpq,z0c]
   exact⟨_,rfl,mr⟩
  |true=>
   obtain⟨g1,g2⟩:=aq.mp hpq
   simp! only[nD,i1,i2,hpq,w1,z0c]
   exact .inr ⟨_,rfl,[x],rfl,.inl (.one hxL (h1.trans g1) (h2.trans g2))⟩
 ·rintro s ⟨o4,rfl,hn1⟩
  simp! only[z1D]
  refine z5X (I:=fun s=>∀x∈L,∀y∈L,at2 T h x=true->at2 T x y=true->at2 T y b=true->False) ?_ ?_
  ·refine z1q (enc:=nD) (fun pre s=>∃o4 o5,s=[some (.sh (z0q T)),some (.sh (.int (h:Int))),some (.sh (.int (b:Int))),some (.sh (thD L)),o4,o5]∧∀x∈pre,∀y∈L,at2 T h x=true->at2 T x y=true->at2 T y b=true->False) ⟨_,_,rfl,fun x hx=>(by cases hx)⟩ ?_ fun s ⟨_,_,_,z⟩=>.inl ⟨s,rfl,z⟩
   rintro pre x post e s ⟨o4,o5,rfl,hp⟩
   have hxL:x∈L:=by rw[e];simp
   have hx:=lt x hxL
   simp! only[z1D]
   have key:hol (z8i 5 (ifO (z3T (z0v (d2 ixD (d2 ixD (z0b 0) (z0b 1)) (z0b 4))) (z3T (z0v (d2 ixD (d2 ixD (z0b 0) (z0b 4)) (z0b 5))) (z0v (d2 ixD (d2 ixD (z0b 0) (z0b 5)) (z0b 2))))) (z8j (z0u (z0j [z0b 4,z0b 5]))) z0P) (L.map nD) [some (.sh (z0q T)),some (.sh (.int (h:Int))),some (.sh (.int (b:Int))),some (.sh (thD L)),some (.sh (nD x)),o5]) fun o=>(∃s,o = .nx s∧∃o5,s=[some (.sh (z0q T)),some (.sh (.int (h:Int))),some (.sh (.int (b:Int))),some (.sh (thD L)),some (.sh (nD x)),o5]∧∀y∈L,at2 T h x=true->at2 T x y=true->at2 T y b=true->False)∨∃d,o = .rt d∧∃w,d=thD w∧(Det T L h b w∨(w=[]∧y2X T L h b)):=by
    refine z1q (enc:=nD) (fun pre s=>∃o5,s=[some (.sh (z0q T)),some (.sh (.int (h:Int))),some (.sh (.int (b:Int))),some (.sh (thD L)),some (.sh (nD x)),o5]∧∀y∈pre,at2 T h x=true->at2 T x y=true->at2 T y b=true->False) ⟨_,rfl,fun x hx=>(by cases hx)⟩ ?_ fun s z=>.inl ⟨s,rfl,z⟩
    rintro pre y post e s ⟨o5,rfl,hq⟩
    have hyL:y∈L:=by rw[e];simp
    have hy:=lt y hyL
    have w2:z4j (some [D.int (x:Int),D.int (y:Int)])=some ([x,y].map nD):=rfl
    have i1:=ix2 sq hh hx
    have i2:=ix2 sq hx hy
    have i3:=ix2 sq hy hb
    obtain⟨p1,h1⟩:∃p,at2 T h x=p:=⟨_,rfl⟩
    obtain⟨p2,h2⟩:∃q,at2 T x y=q:=⟨_,rfl⟩
    obtain⟨p3,h3⟩:∃q,at2 T y b=q:=⟨_,rfl⟩
    rw[h1]at i1
    rw[h2]at i2
    rw[h3]at i3
    have more:(p1&&(p2&&p3))=false->∀z∈pre++[y],at2 T h x=true->at2 T x z=true->at2 T z b=true->False:=fun hk z hz=>by
     rcases au.mp hz with q | q
     ·exact hq z q
     ·rw[ag.mp q,h1,h2,h3]
      intro g1 g2 g3
      rw[g1,g2,g3]at hk
      cases hk
    cases hpq:p1&&(p2&&p3)with
    |false=>
     have mr:=more hpq
     simp! only[nD,i1,i2,i3,hpq,z0c]
     exact⟨_,rfl,mr⟩
    |true=>
     obtain⟨g1,g2⟩:=aq.mp hpq
     obtain⟨g2,g3⟩:=aq.mp g2
     simp! only[nD,i1,i2,i3,hpq,w2,z0c]
     exact .inr ⟨_,rfl,[x,y],rfl,.inl (.two hxL hyL (h1.trans g1) (h2.trans g2) (h3.trans g3))⟩
   obtain⟨o,eo,q⟩:=key
   refine⟨o,eo,?_⟩
   rcases q with⟨s',rfl,o5',rfl,hq⟩ | ⟨d,rfl,hq⟩
   ·refine⟨_,_,rfl,fun z hz=>?_⟩
    rcases au.mp hz with w | w
    ·exact hp z w
    ·rw[ag.mp w];exact hq
   ·exact .inr ⟨d,rfl,hq⟩
  ·intro s hn2
   have w0:z4j (some ([]:List D))=some (([]:List Nat).map nD):=rfl
   simp! only[w0,z0c]
   exact⟨_,rfl,[],rfl,.inr ⟨rfl,hn1,hn2⟩⟩
theorem cut_up{o:List Nat}{k:Nat}(h:k+1≤o.length):y3b (some (thD o)) (some none) (some (some ((k:Int)+1)))=some ((o.take (k+1)).map nD):=by
 show some (z6G (o.map nD) none (some ((k+1:Nat):Int)))=_
 rw[z7u (by simpa using h),cE]
def z8w(C R:List Nat):List Nat:=R.filter fun x=>!C.contains x
theorem left_mem{C R:List Nat}{x:Nat}:x∈z8w C R↔x∈R∧x∉C:=by
 unfold z8w
 rw[af]
 refine and_congr_right fun _=>?_
 constructor
 ·intro h hc
  rw[aw.mpr hc]at h
  cases h
 ·intro h
  have:C.contains x=false:=by rw[←br,aw];exact h
  rw[this]
  rfl
theorem y8P{c:Nat}{r pre post:List Nat}{x:Nat}(e:c::r=pre++x::post):∃k:Nat,((pre.length:Int)+1) % ((c::r).length:Int)=(k:Int)∧ixD (thD (c::r)) (.int (k:Int))=some (.int ((post.headD c:Nat):Int)):=by
 have hl:(c::r).length=pre.length+1+post.length:=by rw[e];simp;omega
 rw[hl]
 cases post with
 |nil=>
  refine⟨0,?_,ix0⟩
  show((pre.length:Int)+1) % ((pre.length+1+0:Nat):Int)=0
  have:((pre.length+1+0:Nat):Int)=(pre.length:Int)+1:=by omega
  rw[this,Int.emod_self]
 |cons y post=>
  refine⟨pre.length+1,?_,?_⟩
  ·have:((pre.length+1:Nat):Int)=(pre.length:Int)+1:=by omega
   rw[←this]
   exact Int.emod_eq_of_lt ⋯ (by simp;omega)
  ·refine y4E ?_
   rw[aG,e]
   have:(pre++x::y::post)[pre.length+1]? = some y:=by
    rw[bh ⋯]
    have:pre.length+1 - pre.length=1:=by omega
    rw[this]
    rfl
   rw[this]
   rfl
inductive Wid(T:LB)(R:List Nat)(c:Nat)(r:List Nat):List Nat->Prop
 |same:(∀pre x post,c::r=pre++x::post->y2X T (z8w (c::r) R) x (post.headD c))->Wid T R c r (c::r)
 |more {pre post w:List Nat} {x:Nat}:c::r=pre++x::post->Det T (z8w (c::r) R) x (post.headD c) w->Wid T R c r (pre++[x]++w++post)
theorem y5D{m:Nat}{T:LB}(sq:Sq m T){c:Nat}{r R:List Nat}(hl:(c::r).length≤1000)(hRl:R.length≤1000)(lt:∀x∈c::r,x<m)(ltR:∀x∈R,x<m):hol (z3s [z0q T,thD (c::r),thD R]) fun d=>∃C,d=thD C∧Wid T R c r C:=by
 refine z5o rfl ?_
 have ib:=@y8P c r
 have hdl:∀{pre:List Nat} {x:Nat} {post:List Nat},c::r=pre++x::post->post.headD c∈c::r:=fun {pre x post} e=>by
  cases post with
  |nil=>exact ac
  |cons y post=>rw[e];simp
 have wsame:=@Wid.same T R c r
 have wmore:=@Wid.more T R c r
 obtain⟨C,hC⟩:∃C,C=c::r:=⟨_,rfl⟩
 rw[←hC]at ib hl lt wsame wmore hdl ⊢
 have cx:∀d3 d4 d5 d6 d7:Option D,z1C (some (R.map nD)) (z1N (z0D (d2 y6g (z0b 8) (z0b 1))) (z0b 8) [some (z0q T),some (thD C),some (thD R),d3,d4,d5,d6,d7])=some ((z8w C R).map nD):=fun d3 d4 d5 d6 d7=>
  z5H (fun x=>!C.contains x) nD hRl (fun x hx=>by simp! only[nD,z5u]) fun x _ _=>by simp! only[]
 have tl:∀W:List Nat,D.lst (W.map nD)=thD W:=fun _=>rfl
 have ltL:∀x∈z8w C R,x<m:=fun x hx=>ltR x (left_mem.mp hx).1
 have lll:(z8w C R).length≤1000:=aI (bd _ _) hRl
 obtain⟨L,hL⟩:∃L,L=z8w C R:=⟨_,rfl⟩
 rw[←hL]at cx ltL lll wsame wmore
 have en:y2R (thD C)=some (z0B 0 (C.map nD)):=rfl
 simp! only[z7G,z1D,cx,tl,en]
 refine z5X (I:=fun s=>∃o4 o5 o6 o7,s=[some (.sh (z0q T)),some (.sh (thD C)),some (.sh (thD R)),some (.sh (thD L)),o4,o5,o6,o7]∧∀pre x post,C=pre++x::post->y2X T L x (post.headD c)) ?_ ?_
 ·refine z9J (enc:=nD) (xs:=C) (fun p s=>∃o4 o5 o6 o7,s=[some (.sh (z0q T)),some (.sh (thD C)),some (.sh (thD R)),some (.sh (thD L)),o4,o5,o6,o7]∧∀pre x post,C=pre++x::post->pre.length<p.length->y2X T L x (post.headD c)) ?_ ?_ (post:=C) (pre:=[]) rfl ⟨_,_,_,_,rfl,fun pre x post _ h=>absurd h (by simp)⟩
  ·rintro pre x post e s ⟨o4,o5,o6,o7,rfl,hp⟩
   obtain⟨k,ek,ik⟩:=ib e
   have hx:=lt x (by rw[e];simp)
   have hb:=lt _ (hdl e)
   obtain⟨b,hbe⟩:∃b,b=post.headD c:=⟨_,rfl⟩
   rw[←hbe]at ik hb
   have hpos:0<C.length:=by rw[hC];simp
   have mk:z3U (.int ((pre.length:Int)+1)) (.int (C.length:Int))=some (.int (k:Int)):=by rw[z2n ⋯,ek]
   obtain⟨_,ed,w,rfl,hd⟩:=y8a sq hx hb ltL
   have ed:z5A [z0q T,.int (x:Int),.int (b:Int),thD L]=some (thD w):=ed
   simp! only[nD,z2I,mk,ik,ed]
   rcases hd with hd | ⟨rfl,hn⟩
   ·have hlw:w.length≤2:=by cases hd <;> simp
    obtain⟨y,w',hw⟩:∃y w',w=y::w':=by
     cases w with
     |nil=>exact absurd rfl hd.wk.2.2.1
     |cons y w'=>exact⟨y,w',rfl⟩
    have tr:z5S (thD w)=some true:=by rw[hw];rfl
    have hle:pre.length+1≤C.length:=by rw[e];simp
    have c1:=cut_up (o:=C) (k:=pre.length) hle
    have c2:=z9m (o:=C) (k:=pre.length)
    have t1:C.take (pre.length+1)=pre++[x]:=by
     rw[e,List.take_append,aS ⋯]
     have:pre.length+1 - pre.length=1:=by omega
     rw[this]
     rfl
    have t2:C.drop (pre.length+1)=post:=by
     rw[e,List.drop_append,bi ⋯]
     have:pre.length+1 - pre.length=1:=by omega
     rw[this]
     rfl
    have pl:pre.length+post.length≤1000:=by
     have:=congrArg List.length e
     simp at this
     omega
    rw[t1]at c1
    rw[t2]at c2
    rw[hbe]at hd
    have wm:=wmore e hd
    have k1:=z7x (a:=pre++[x]) (b:=w) (by simp;omega)
    have k2:=z7x (a:=pre++[x]++w) (b:=post) (by simp;omega)
    obtain⟨A2,hA2⟩:∃A,A=pre++[x]++w++post:=⟨_,rfl⟩
    rw[←hA2]at k2 wm
    obtain⟨A1,hA1⟩:∃A,A=pre++[x]++w:=⟨_,rfl⟩
    rw[←hA1]at k1 k2
    obtain⟨A0,hA0⟩:∃A,A=pre++[x]:=⟨_,rfl⟩
    rw[←hA0]at c1 k1
    simp! only[tr,c1,tl,k1,c2,k2,z0c]
    exact .inr ⟨_,rfl,A2,rfl,wm⟩
   ·simp! only[tru_nil,z0c]
    refine⟨_,_,_,_,rfl,fun pre' x' post' e' hlt=>?_⟩
    by_cases hq:pre'.length<pre.length
    ·exact hp pre' x' post' e' hq
    ·have hle:pre'.length=pre.length:=by simp at hlt;omega
     have:=List.append_inj (e'.symm.trans e) hle
     obtain⟨rfl,he⟩:=this
     cases he
     rw[hbe]at hn
     exact hn
  ·rintro s ⟨o4,o5,o6,o7,rfl,hp⟩
   exact .inl ⟨_,rfl,_,_,_,_,rfl,fun pre x post e=>hp pre x post e (by rw[e];simp)⟩
 ·rintro s ⟨o4,o5,o6,o7,rfl,hp⟩
  simp! only[z0c]
  exact⟨_,rfl,C,rfl,wsame hp⟩
theorem x0S{c x:Nat}{r pre post:List Nat}(e:c::r=pre++x::post):∃a,pre++[x]=c::a∧r=a++post∧lsN c a=x:=by
 cases pre with
 |nil=>
  cases e
  exact⟨[],rfl,rfl,rfl⟩
 |cons y pre=>
  have e1:c=y:=(List.cons.inj e).1
  have e2:r=pre++x::post:=(List.cons.inj e).2
  subst e1
  exact⟨pre++[x],rfl,by rw[e2];simp,y3z⟩
theorem Wid.go{m:Nat}{T:LB}(own:∀i<m,at2 T i i=false){R:List Nat}(ltR:∀x∈R,x<m){c:Nat}{r W:List Nat}(C:Cyc T c r)(hs:∀x∈c::r,x∈R)(h:Wid T R c r W)(hl:(c::r).length<W.length):∃r',W=c::r'∧Cyc T c r'∧∀x∈c::r',x∈R:=by
 cases h with
 |same _=>omega
 | @more pre post w x e D=>
  obtain⟨a,e1,e2,e3⟩:=x0S e
  subst e2
  rw[←e3]at D
  have P:=Cyc.put own C (fun z hz=>ltR z (left_mem.mp hz).1) (fun z hz=>(left_mem.mp hz).2) D
  refine⟨a++w++post,by rw[e1];simp,P,fun z hz=>?_⟩
  obtain⟨_,_,_,d4⟩:=D.wk
  rcases ai.mp hz with q | q
  ·rw[q];exact hs c ac
  ·rcases au.mp q with q | q
   ·rcases au.mp q with q | q
    ·exact hs z (by simp[q])
    ·exact(left_mem.mp (d4 z q)).1
   ·exact hs z (by simp[q])
theorem Wid.stay{T:LB}{R:List Nat}{c:Nat}{r W:List Nat}(h:Wid T R c r W)(hl:¬(c::r).length<W.length):∀pre x post,c::r=pre++x::post->y2X T (z8w (c::r) R) x (post.headD c):=by
 cases h with
 |same h=>exact h
 |more e D=>
  exfalso
  apply hl
  rw[e]
  have:=b9.mpr D.wk.2.2.1
  simp
  omega
theorem x0u{m:Nat}{T:LB}(F:Full m T)(hm:m≤60){c:Nat}{R':List Nat}(up:(c::R').Pairwise (· < ·))(ltR:∀x∈c::R',x<m)(hS:Stg T (c::R')):hol (z2F [z0q T,thD (c::R')]) fun d=>∃r,d=thD (c::r)∧Cyc T c r∧∀x,x∈c::r↔x∈c::R':=by
 refine z5o rfl ?_
 have mn:=y5G up
 have hRn:(c::R').Nodup:=up.imp fun h=>aE h
 have hRl:(c::R').length≤m:=by simpa using List.Nodup.length_le_of_subset hRn fun x hx=>ak.mpr (ltR x hx)
 have hcR:c∈c::R':=ac
 obtain⟨R,hR⟩:∃R,R=c::R':=⟨_,rfl⟩
 rw[←hR]at mn hRn hRl hcR ltR hS ⊢
 have t1:D.lst [.int (c:Int)]=thD [c]:=rfl
 have wd:∀{r:List Nat},Cyc T c r->(∀x∈c::r,x∈R)->∃W,z3s [z0q T,thD (c::r),thD R]=some (thD W)∧Wid T R c r W:=fun {r} C hs=>by
  have hl:(c::r).length≤R.length:=List.Nodup.length_le_of_subset C.nd hs
  obtain⟨_,e,W,rfl,h⟩:=y5D F.sq (c:=c) (r:=r) (R:=R) ⋯ ⋯ (fun x hx=>ltR x (hs x hx)) ltR
  exact⟨W,e,h⟩
 have C0:Cyc T c []:=⟨by simp,trivial,fun h=>absurd rfl h⟩
 have hs0:∀x∈[c],x∈R:=fun x hx=>by rw[ag.mp hx];exact hcR
 obtain⟨W0,e0,h0⟩:=wd C0 hs0
 simp! only[z6a,mn,t1,e0]
 refine z5X (I:=fun s=>∃(r:List Nat) (o3:Option SD),s=[some (.sh (z0q T)),some (.sh (thD R)),some (.sh (thD (c::r))),o3]∧Cyc T c r∧∀x,x∈c::r↔x∈R) ?_ ?_
 ·refine z5M (fun n s=>∃(r W:List Nat),s=[some (.sh (z0q T)),some (.sh (thD R)),some (.sh (thD (c::r))),some (.sh (thD W))]∧Cyc T c r∧(∀x∈c::r,x∈R)∧Wid T R c r W∧R.length≤n+(c::r).length) (n:=R.length) ⟨[],W0,rfl,C0,hs0,h0,by omega⟩ ?_ ⋯
  rintro n s ⟨r,W,rfl,C,hs,hw,hn⟩
  refine⟨decide (((c::r).length:Int)<(W.length:Int)),?_,fun hk=>?_,fun hk=>?_⟩
  ·have d1:decide ((W.length:Int)>((c::r).length:Int))=decide (((c::r).length:Int)<(W.length:Int)):=rfl
   obtain⟨Q,hQ⟩:∃Q,Q=c::r:=⟨_,rfl⟩
   rw[←hQ]at d1 ⊢
   simp! only[z2I,d1]
  ·have hk:=of_decide_eq_false hk
   refine .inl ⟨_,rfl,r,_,rfl,C,fun x=>⟨fun hx=>hs x hx,?_⟩⟩
   exact Cyc.full F ltR hS hs (L:=z8w (c::r) R) (fun x=>left_mem) (hw.stay ⋯) x
  ·have hk:=of_decide_eq_true hk
   obtain⟨r',rfl,C',hs'⟩:=hw.go F.own ltR C hs ⋯
   have hl':(c::r').length≤R.length:=List.Nodup.length_le_of_subset C'.nd hs'
   obtain⟨W',e',h'⟩:=wd C' hs'
   refine⟨n - 1,by omega,?_⟩
   have fin:∃(r W:List Nat),[some (.sh (z0q T)),some (.sh (thD R)),some (.sh (thD (c::r'))),some (.sh (thD W'))]=[some (SD.sh (z0q T)),some (.sh (thD R)),some (.sh (thD (c::r))),some (.sh (thD W))]∧Cyc T c r∧(∀x∈c::r,x∈R)∧Wid T R c r W∧R.length≤n - 1+(c::r).length:=⟨r',W',rfl,C',hs',h',by omega⟩
   obtain⟨Q,hQ⟩:∃Q,Q=c::r:=⟨_,rfl⟩
   rw[←hQ]
   obtain⟨Q',hQ'⟩:∃Q,Q=c::r':=⟨_,rfl⟩
   rw[←hQ']at e' fin ⊢
   simp! only[e',z0c]
   exact fin
 ·rintro s ⟨r,o3,rfl,C,hm⟩
  have fin:∃r',thD (c::r)=thD (c::r')∧Cyc T c r'∧∀x,x∈c::r'↔x∈R:=⟨r,rfl,C,hm⟩
  obtain⟨Q,hQ⟩:∃Q,Q=c::r:=⟨_,rfl⟩
  rw[←hQ]at fin ⊢
  simp! only[z0c]
  exact⟨_,rfl,fin⟩
theorem lix_th{o:List Nat}{x:Nat}(h:x∈o):lixF (thD o) (.int (x:Int))=some (.int ((o.findIdx fun n=>n==x:Nat):Int)):=by
 show((z2O (o.map nD)).bind fun ns=>(ns.findIdx? (fun n=>n==(x:Int))).map fun j=>D.int (j:Int))=_
 rw[y8g,y0h,aj,List.findIdx?_map]
 have e:((fun n:Int=>n==(x:Int))∘fun n:Nat=>((n:Nat):Int))=fun n=>n==x:=by
  funext n
  show((n:Int)==(x:Int))=(n==x)
  by_cases hz:n=x
  ·subst hz;simp
  ·have h1:((n:Int)==(x:Int))=false:=by rw[beq_eq_false_iff_ne];omega
   have h2:(n==x)=false:=by rw[beq_eq_false_iff_ne];exact hz
   rw[h1,h2]
 rw[e,List.findIdx?_eq_guard_findIdx_lt]
 have hl:o.findIdx (fun n=>n==x)<o.length:=List.findIdx_lt_length_of_exists ⟨x,h,by simp⟩
 simp[Option.guard,hl]
theorem y7h{a:Nat}:∀{pre post:List Nat},a∉pre->(pre++a::post).findIdx (fun n=>n==a)=pre.length
 |[],post,_=>by simp[List.findIdx_cons]
 |x::pre,post,h=>by
  have hx:(x==a)=false:=by rw[beq_eq_false_iff_ne];exact fun z=>h (z ▸ ac)
  have ih:=y7h (a:=a) (pre:=pre) (post:=post) fun z=>h (ae _ z)
  rw[cT,List.findIdx_cons,hx,ih]
  rfl
theorem x1Y{T:LB}{c:Nat}{r:List Nat}(C:Cyc T c r){a:Nat}(ha:a∈c::r)(hl:(c::r).length≤1000):∃q,z2W [thD (c::r),.int (a:Int)]=some (thD (a::q))∧wk T a q∧(a::q).Perm (c::r):=by
 obtain⟨pre,post,e⟩:=dD ha
 have nd:=C.nd
 rw[e,aO]at nd
 have hn:a∉pre:=fun z=>nd.2.2 a z a ac rfl
 have lx:=lix_th ha
 rw[e,y7h hn]at lx
 refine⟨post++pre,?_,?_,?_⟩
 ·refine z0z rfl ?_
  rw[e]at hl ⊢
  have c1:=y1N (o:=pre++a::post) (k:=pre.length)
  have c2:=z7u (ds:=(pre++a::post).map nD) (k:=pre.length) (by simp)
  have c2:y3b (some (thD (pre++a::post))) (some none) (some (some (pre.length:Int)))=some (pre.map nD):=by
   show some (z6G ((pre++a::post).map nD) none (some (pre.length:Int)))=_
   rw[c2,←cE]
   simp
  have t1:(pre++a::post).drop pre.length=a::post:=by simp
  rw[t1]at c1
  have ct:=z7x (a:=a::post) (b:=pre) (by simp at hl ⊢;omega)
  obtain⟨Q,hQ⟩:∃Q,Q=pre++a::post:=⟨_,rfl⟩
  rw[←hQ]at lx c1 c2 ⊢
  have ex:a::(post++pre)=a::post++pre:=rfl
  rw[ex]
  obtain⟨Q2,hQ2⟩:∃Q,Q=a::post++pre:=⟨_,rfl⟩
  rw[←hQ2]at ct ⊢
  obtain⟨Q1,hQ1⟩:∃Q,Q=a::post:=⟨_,rfl⟩
  rw[←hQ1]at c1 ct
  have tl:∀W:List Nat,D.lst (W.map nD)=thD W:=fun _=>rfl
  simp! only[z3W,lx,c1,c2,tl,ct,z1U,z0c]
 ·cases pre with
  |nil=>
   cases e
   rw[aF]
   exact C.wk
  |cons y p=>
   have e1:c=y:=(List.cons.inj e).1
   have e2:r=p++a::post:=(List.cons.inj e).2
   subst e1
   have w:=C.wk
   have cl:=C.cl (by rw[e2];simp)
   rw[e2]at w cl
   rw[z5n]at cl
   obtain⟨w1,w2⟩:=wk_app.mp w
   rw[wk_app]
   exact⟨w2.2,cl,w1⟩
 ·rw[e]
  have:(a::(post++pre))=(a::post)++pre:=rfl
  rw[this]
  exact c5
theorem x0z{np nl:Nat}{b:SS->Option Out}{ds:List D}{Q:XO->Prop}(hl:ds.length=np)(h:hol (b (ds.map (fun d=>some (.sh d))++ad nl none)) fun o=>∃d,o = .rt d∧Q (.val d)):hol (z9M np nl b ds) Q:=by
 obtain⟨o,e,d,rfl,q⟩:=h
 refine⟨.val d,?_,q⟩
 unfold z9M
 rw[if_pos hl,e]
theorem cls_up{m:Nat}{f:Nat->Nat}{a:Nat}:(cls m f a).Pairwise (· < ·):=List.Pairwise.filter _ bR
theorem y4a{m:Nat}{f:Nat->Nat}{a x:Nat}(h:x∈cls m f a):x<m:=ak.mp (af.mp h).1
theorem cls_f{m:Nat}{f:Nat->Nat}{a x:Nat}(h:x∈cls m f a):f x=f a:=of_decide_eq_true (af.mp h).2
theorem z3H{m:Nat}{f:Nat->Nat}{a:Nat}(h:a<m):a∈cls m f a:=af.mpr ⟨ak.mpr h,decide_eq_true rfl⟩
theorem Rgs.perm{m:Nat}{f:Nat->Nat}{L:List (List Nat)}(h:Rgs m f L):L.flatten.Perm (ah m):=by
 refine(bY ?_ cz).mpr fun x=>?_
 ·unfold List.Nodup
  rw[List.pairwise_flatten]
  refine⟨fun r hr=>?_,h.pw.imp fun {r s} q=>?_⟩
  ·obtain⟨a,_,rfl⟩:=(h.mem r).mp hr
   exact cls_up.imp fun h=>aE h
  ·intro x hx y hy e
   subst e
   have:=q.2.2 x hx x hy
   omega
 ·rw[cA,ak]
  constructor
  ·rintro⟨r,hr,hx⟩
   obtain⟨a,_,rfl⟩:=(h.mem r).mp hr
   exact y4a hx
  ·intro hx
   exact⟨cls m f x,(h.mem _).mpr ⟨x,hx,rfl⟩,z3H hx⟩
theorem Rgs.cons{m:Nat}{f:Nat->Nat}{L:List (List Nat)}(h:Rgs m f L)(h0:0<m):∃r0 rest,L=r0::rest:=by
 have:cls m f 0∈L:=(h.mem _).mpr ⟨0,h0,rfl⟩
 cases L with
 |nil=>cases this
 |cons r s=>exact⟨r,s,rfl⟩
theorem Rgs.top{m:Nat}{f:Nat->Nat}{r0:List Nat}{rest:List (List Nat)}(h:Rgs m f (r0::rest)){a:Nat}(ha:a<m):a∈r0↔∀b<m,f b≤f a:=by
 obtain⟨a0,ha0,e0⟩:=(h.mem r0).mp ac
 have pw:=aM.mp h.pw
 constructor
 ·intro hr b hb
  rw[e0]at hr
  have fa:=cls_f hr
  have hb2:cls m f b∈r0::rest:=(h.mem _).mpr ⟨b,hb,rfl⟩
  rcases ai.mp hb2 with q | q
  ·have:b∈r0:=q ▸ z3H hb
   rw[e0]at this
   rw[cls_f this,fa]
   exact ar _
  ·have:=(pw.1 _ q).2.2 a (by rw[e0];exact hr) b (z3H hb)
   omega
 ·intro hb
  have ha2:cls m f a∈r0::rest:=(h.mem _).mpr ⟨a,ha,rfl⟩
  rcases ai.mp ha2 with q | q
  ·exact q ▸ z3H ha
  ·have:=(pw.1 _ q).2.2 a0 (by rw[e0];exact z3H ha0) a (z3H ha)
   have:=hb a0 ha0
   omega
theorem x2B{m:Nat}{T:LB}(F:Full m T)(hm:m≤60){r0:List Nat}{rest:List (List Nat)}(hr:rgL T m=r0::rest){a:Nat}(ha:a∈r0):∃q,z1Q [z0q T,.int (a:Int)]=some (.val (thD (a::q)))∧wk T a q∧(a::q).Perm (ah m):=by
 have G:=z6D (T:=T) (m:=m)
 rw[hr]at G
 have ro:∀s∈r0::rest,∃c r',hol (z2F [z0q T,thD s]) (fun d=>d=thD (c::r'))∧Cyc T c r'∧(c::r').Perm s:=fun s hs=>by
  obtain⟨b,hb,rfl⟩:=(G.mem s).mp hs
  have up:=cls_up (m:=m) (f:=fun a=>(rcL T m a).length) (a:=b)
  have lt:∀x∈cls m (fun a=>(rcL T m a).length) b,x<m:=fun x hx=>y4a hx
  have st:=x1Z F (a:=b)
  have hne:=z3H (f:=fun a=>(rcL T m a).length) hb
  obtain⟨R,hR⟩:∃R,R=cls m (fun a=>(rcL T m a).length) b:=⟨_,rfl⟩
  rw[←hR]at up lt st hne ⊢
  cases R with
  |nil=>cases hne
  |cons c R'=>
   obtain⟨_,e,r',rfl,C,hm⟩:=x0u F hm up lt st
   refine⟨c,r',⟨_,e,rfl⟩,C,(bY C.nd (up.imp fun h=>aE h)).mpr hm⟩
 suffices h:hol (z1Q [z0q T,.int (a:Int)]) fun x=>∃q,x = .val (thD (a::q))∧wk T a q∧(a::q).Perm (ah m) by
  obtain⟨_,e,q,rfl,h⟩:=h
  exact⟨q,e,h⟩
 refine x0z rfl ?_
 have re:=y4m F.sq hm
 rw[hr]at re
 have ltall:∀s∈r0::rest,s.length≤m:=fun s hs=>by
  obtain⟨b,hb,rfl⟩:=(G.mem s).mp hs
  have:=bd (fun c=>decide ((rcL T m c).length=(rcL T m b).length)) (ah m)
  rw[bJ]at this
  exact this
 obtain⟨c0,s0,⟨_,er0,rfl⟩,C0,p0⟩:=ro r0 ac
 have hl0:(c0::s0).length≤1000:=by
  have:=p0.length_eq
  have:=ltall r0 ac
  omega
 obtain⟨q0,eb,w0,pq0⟩:=x1Y C0 (p0.mem_iff.mpr ha) hl0
 have ix:ixD (.lst ((r0::rest).map thD)) (.int 0)=some (thD r0):=z2q (j:=0) rfl
 have cu:y3b (some (.lst ((r0::rest).map thD))) (some (some 1)) (some none)=some (rest.map thD):=by
  show some (z6G ((r0::rest).map thD) (some ((1:Nat):Int)) none)=_
  rw[y1z]
  rfl
 have sr:y4R (.lst (rest.map thD))=some (rest.map thD):=rfl
 have hc:(!r0.contains a)=false:=by rw[aw.mpr ha];rfl
 have tot:=G.perm
 have flen:(r0++rest.flatten).length=m:=by
  have:=tot.length_eq
  rw[bJ]at this
  exact this
 obtain⟨Lr,hLr⟩:∃Lr,Lr=D.lst ((r0::rest).map thD):=⟨_,rfl⟩
 rw[←hLr]at re ix cu
 have fin0:∃q,thD (a::q0)=thD (a::q)∧wk T a q∧(a::q).Perm (r0++([]:List (List Nat)).flatten):=⟨q0,rfl,w0,by simpa using pq0.trans p0⟩
 obtain⟨Z0,hZ0⟩:∃Z,Z=c0::s0:=⟨_,rfl⟩
 rw[←hZ0]at er0 eb
 obtain⟨Y0,hY0⟩:∃Y,Y=a::q0:=⟨_,rfl⟩
 rw[←hY0]at eb fin0
 simp! only[z6B,re,ix,z5u,hc,er0,eb,cu,sr]
 refine z0G (I:=fun s=>∃(q:List Nat) (o4:Option SD),s=[some (.sh (z0q T)),some (.sh (.int (a:Int))),some (.sh Lr),some (.ow (thD (a::q))),o4]∧wk T a q∧(a::q).Perm (r0++rest.flatten)) ?_ ?_
 ·obtain⟨qq,eqq,wqq,pqq⟩:=fin0
  rw[eqq]
  refine z1q (enc:=thD) (fun pre s=>∃(q:List Nat) (o4:Option SD),s=[some (.sh (z0q T)),some (.sh (.int (a:Int))),some (.sh Lr),some (.ow (thD (a::q))),o4]∧wk T a q∧(a::q).Perm (r0++pre.flatten)) ⟨qq,_,rfl,wqq,pqq⟩ ?_ fun s z=>⟨s,rfl,z⟩
  rintro pre s post e st ⟨q,o4,rfl,wq,pq⟩
  have hs:s∈r0::rest:=ae _ (by rw[e];simp)
  obtain⟨c,r',⟨_,er,rfl⟩,C,ps⟩:=ro s hs
  have hbt:at2 T (lsN a q) c=true:=by
   have h1:lsN a q∈r0++pre.flatten:=pq.mem_iff.mp y6Q
   have h2:∃t∈r0::pre,lsN a q∈t:=by
    rcases au.mp h1 with z | z
    ·exact⟨r0,ac,z⟩
    ·obtain⟨t,ht,hz⟩:=cA.mp z
     exact⟨t,ae _ ht,hz⟩
   obtain⟨t,ht,hz⟩:=h2
   have pw:=G.pw
   rw[e]at pw
   have pw:((r0::pre)++s::post).Pairwise (Upp fun a=>(rcL T m a).length):=pw
   have up:=(cF.mp pw).2.2 t ht s ac
   have hcs:c∈s:=ps.mem_iff.mp ac
   have htL:t∈r0::rest:=by
    rw[e]
    rcases ai.mp ht with z | z
    ·rw[z];exact ac
    ·exact ae _ (aQ _ z)
   obtain⟨b1,hb1,et⟩:=(G.mem t).mp htL
   obtain⟨b2,hb2,es⟩:=(G.mem s).mp hs
   exact y1O F (by rw[et]at hz;exact y4a hz) (by rw[es]at hcs;exact y4a hcs) (up.2.2 _ hz c hcs)
  have l1:(a::q).length≤m:=by
   rw[pq.length_eq]
   rw[e]at flen
   simp at flen ⊢
   omega
  have l2:(c::r').length≤m:=by
   rw[ps.length_eq]
   exact ltall s hs
  have ex:=eo_extD (ds:=(a::q).map nD) (es:=(c::r').map nD) (y0P _) (by rw[ao,ao];omega)
  rw[←aR]at ex
  have ex:extDV (some (thD (a::q))) (some (thD (c::r')))=some (thD (a::q++c::r')):=ex
  have fin:∃(q':List Nat),thD (a::q++c::r')=thD (a::q')∧wk T a q'∧(a::q').Perm (r0++(pre++[s]).flatten):=⟨q++c::r',rfl,wk_app.mpr ⟨wq,hbt,C.wk⟩,by
   have:=pq.append ps
   simpa using this⟩
  obtain⟨Z,hZ⟩:∃Z,Z=a::q++c::r':=⟨_,rfl⟩
  rw[←hZ]at ex fin
  obtain⟨Z1,hZ1⟩:∃Z,Z=a::q:=⟨_,rfl⟩
  rw[←hZ1]at ex ⊢
  obtain⟨Z2,hZ2⟩:∃Z,Z=c::r':=⟨_,rfl⟩
  rw[←hZ2]at ex er
  simp! only[er,ex,z0c]
  obtain⟨q',e1,e2⟩:=fin
  exact⟨q',_,by rw[e1],e2⟩
 ·rintro s ⟨q,o4,rfl,wq,pq⟩
  have fin:∃q',XO.val (thD (a::q)) = .val (thD (a::q'))∧wk T a q'∧(a::q').Perm (ah m):=⟨q,rfl,wq,pq.trans tot⟩
  obtain⟨Z,hZ⟩:∃Z,Z=a::q:=⟨_,rfl⟩
  rw[←hZ]at fin ⊢
  simp! only[z0c]
  exact⟨_,rfl,fin⟩
theorem z4M{m:Nat}{T:LB}(F:Full m T)(hm:m≤60){r0:List Nat}{rest:List (List Nat)}(hr:rgL T m=r0::rest):z2E [z0q T]=some (thD r0):=by
 refine z0z rfl ?_
 have re:=y4m F.sq hm
 rw[hr,aH]at re
 have ix:atI (thD r0::rest.map thD) 0=some (thD r0):=z2q (j:=0) rfl
 simp! only[z6x,re,ix,z0c]
theorem x1d{m:Nat}{T:LB}(F:Full m T)(hm:m≤60){r0:List Nat}{rest:List (List Nat)}(hr:rgL T m=r0::rest){a:Nat}(ha:a∈r0):∃q,z3q [z0q T,.int (a:Int)]=some (.tup [.str "order",thD (a::q).reverse])∧wk T a q∧(a::q).Perm (ah m):=by
 obtain⟨q,e,w,p⟩:=x2B F hm hr ha
 refine⟨q,z0z rfl ?_,w,p⟩
 have tr:=z4M F hm hr
 have hc:(!r0.contains a)=false:=by rw[aw.mpr ha];rfl
 obtain⟨Q,hQ⟩:∃Q,Q=a::q:=⟨_,rfl⟩
 rw[←hQ]at e ⊢
 have rv:revF [thD Q]=some (Q.reverse.map nD):=by
  show revF [.lst (Q.map nD)]=_
  rw[y2H,List.map_reverse]
 have tl:∀W:List Nat,D.lst (W.map nD)=thD W:=fun _=>rfl
 simp! only[z4G,tr,z5u,hc,e,rv,tl,z0c]
theorem y9y{m:Nat}{T:LB}(F:Full m T)(hm:m≤60){r0:List Nat}{rest:List (List Nat)}(hr:rgL T m=r0::rest){a:Nat}(ha:a∉r0):z3q [z0q T,.int (a:Int)]=some (.tup [.str "shut",thD r0]):=by
 refine z0z rfl ?_
 have tr:=z4M F hm hr
 have hc:(!r0.contains a)=true:=by
  have:r0.contains a=false:=by rw[←br,aw];exact ha
  rw[this]
  rfl
 simp! only[z4G,tr,z5u,hc,z0c]
theorem rest_in{m:Nat}{T:LB}(F:Full m T)(hm:m≤60){r0:List Nat}{rest:List (List Nat)}(hr:rgL T m=r0::rest){a:Nat}(ha:a∈r0):∃q,z3Z [z0q T,.int (a:Int)]=some (.tup [.str "order",thD (a::q)])∧wk T a q∧(a::q).Perm (ah m):=by
 obtain⟨q,e,w,p⟩:=x2B F hm hr ha
 refine⟨q,z0z rfl ?_,w,p⟩
 have tr:=z4M F hm hr
 have hc:(!r0.contains a)=false:=by rw[aw.mpr ha];rfl
 obtain⟨Q,hQ⟩:∃Q,Q=a::q:=⟨_,rfl⟩
 rw[←hQ]at e ⊢
 have tl:∀W:List Nat,D.lst (W.map nD)=thD W:=fun _=>rfl
 simp! only[z5R,tr,z5u,hc,e,tl,z0c]
theorem x1l{m:Nat}{T:LB}(F:Full m T)(hm:m≤60){r0:List Nat}{rest:List (List Nat)}(hr:rgL T m=r0::rest){a:Nat}(ha:a∉r0):z3Z [z0q T,.int (a:Int)]=some (.tup [.str "shut",thD r0]):=by
 refine z0z rfl ?_
 have tr:=z4M F hm hr
 have hc:(!r0.contains a)=true:=by
  have:r0.contains a=false:=by rw[←br,aw];exact ha
  rw[this]
  rfl
 simp! only[z5R,tr,z5u,hc,z0c]
theorem wk_at{T:LB}:∀{u:List Nat} {a:Nat} {q:List Nat} {x y:Nat} {v:List Nat},wk T a q->a::q=u++x::y::v->at2 T x y=true
 |[],a,q,x,y,v,h,e=>by
  cases e
  exact h.1
 |z::u,a,q,x,y,v,h,e=>by
  have e2:q=u++x::y::v:=(List.cons.inj e).2
  cases q with
  |nil=>simp at e2
  |cons b q=>exact wk_at (u:=u) h.2 e2
theorem y7x:∀{p:List Nat} {x:Nat},∃v,(x::p).reverse=lsN x p::v
 |[],x=>⟨[],rfl⟩
 |y::p,x=>by
  obtain⟨v,hv⟩:=y7x (p:=p) (x:=y)
  exact⟨v++[x],by rw[ci,hv];rfl⟩
theorem wk_back{T:LB}{a:Nat}{q:List Nat}(h:wk T a q){x0:Nat}{o pre post:List Nat}{x:Nat}(e:(a::q).reverse=x0::o)(eo:o=pre++x::post):at2 T x (lsN x0 pre)=true:=by
 obtain⟨v,hv⟩:=y7x (p:=pre) (x:=x0)
 have e1:a::q=(x0::o).reverse:=by rw[←e,c9]
 have e2:a::q=post.reverse++x::lsN x0 pre::v:=by
  rw[e1,eo,←hv]
  simp
 exact wk_at h e2
theorem x1H{a:Nat}{q:List Nat}{x0:Nat}{o:List Nat}(e:(a::q).reverse=x0::o):lsN x0 o=a:=by
 obtain⟨v,hv⟩:=y7x (p:=o) (x:=x0)
 rw[←e,c9]at hv
 exact(List.cons.inj hv).1.symm
def chB(T:LB):List Nat->Bool
 |[]=>true
 |a::r=>(r.all fun j=>at2 T a j)&&chB T r
def z5G(T:LB)(th:List Nat):Bool:=!th.isEmpty&&chB T th
theorem y9n{T:LB}:∀{th:List Nat} {k:Nat} {pre:List Nat},pre.length=k->((th.zipIdx k).all fun z=>((pre++th).drop (z.2+1)).all fun j=>at2 T z.1 j)=chB T th
 |[],_,_,_=>rfl
 |a::r,k,pre,h=>by
  have ih:=y9n (T:=T) (th:=r) (k:=k+1) (pre:=pre++[a]) (by simp[h])
  have e:pre++[a]++r=pre++a::r:=by simp
  rw[e]at ih
  rw[List.zipIdx_cons,dv,ih]
  show((((pre++a::r).drop (k+1)).all fun j=>at2 T a j)&&_)=_
  have e2:(pre++a::r).drop (k+1)=r:=by rw[←h];simp
  rw[e2]
  rfl
theorem y5I{m:Nat}{T:LB}(sq:Sq m T){th:List Nat}(hl:th.length≤1000)(h:∀x∈th,x<m):z4F [z0q T,thD th]=some (.bl (z5G T th)):=by
 refine z0z rfl ?_
 by_cases h0:th=[]
 ·subst h0
  have d0:decide ((([]:List Nat).length:Int)=0)=true:=rfl
  simp! only[z4L,z2I,d0,z0c]
  rfl
 ·have d0:decide ((th.length:Int)=0)=false:=decide_eq_false fun e=>h0 (bx.mp ⋯)
  simp! only[z4L,z2I,d0,y6H]
  rw[cx2_all (fun k a=>bD ((th.drop (k+1)).all fun j=>at2 T a j)) hl fun i hi=>by
   have c:=z7j sq (h th[i] (bM hi)) (th:=th.drop (i+1)) (by simp;omega) fun x hx=>h x (List.mem_of_mem_drop hx)
   have tl:∀o:List Nat,D.lst (o.map nD)=thD o:=fun _=>rfl
   have c:z1v [z0q T,nD th[i],thD (th.drop (i+1))]=_:=c
   simp! only[z9m,tl,c]
   rfl]
  have e:(th.zipIdx.map fun z=>bD ((th.drop (z.2+1)).all fun j=>at2 T z.1 j))=(th.zipIdx.map fun z=>(th.drop (z.2+1)).all fun j=>at2 T z.1 j).map bD:=by rw[bp];rfl
  have e2:((th.zipIdx.map fun z=>(th.drop (z.2+1)).all fun j=>at2 T z.1 j).all fun b=>b)=z5G T th:=by
   unfold z5G
   rw[List.all_map,←y9n (T:=T) (th:=th) (k:=0) (pre:=[]) rfl]
   have:(!th.isEmpty)=true:=by simp[h0]
   rw[this]
   rfl
  simp! only[e,x2O,e2,z0c]
def btL(T:LB)(m:Nat)(th:List Nat):List Nat:=(ah m).filter fun a=>th.all fun j=>at2 T a j
theorem z8X{m:Nat}{T:LB}(sq:Sq m T)(hm:m≤1000){th:List Nat}(hl:th.length≤1000)(h:∀x∈th,x<m):z2K [z0q T,thD th]=some (thD (btL T m th)):=by
 refine z0z rfl ?_
 simp! only[z8e,z2r,sq.1,z0K (show m≤1000000 by omega),z1W]
 rw[z5H (fun a=>th.all fun j=>at2 T a j) nD (by simp;omega) (fun a ha=>by
  have c:=z7j sq (ak.mp ha) hl h
  simp! only[nD,c]) fun x hx _=>by simp! only[]]
 simp! only[z1U,z0c]
 rfl
theorem x0c{m:Nat}{T:LB}(sq:Sq m T)(hm:m≤1000){th:List Nat}(hl:th.length≤1000)(h:∀x∈th,x<m):z5C [z0q T,thD th]=some (.bl (z5G T th&&decide (((btL T m th).length:Int)=0))):=by
 refine z0z rfl ?_
 simp! only[y0m,y5I sq hl h,z8X sq hm hl h,z2I,z0c]
def z6b(T:LB):Nat->List Nat->List Nat->List (List Nat)
 |0,_,_=>[]
 |_+1,c,[]=>[c]
 |n+1,c,x::f=>((x::f).map fun y=>z6b T n (c++[y]) ((x::f).filter fun z=>at2 T y z)).flatten
def fac:Nat->Nat
 |0=>1
 |n+1=>(n+1)*fac n
theorem x0B(n:Nat):fac n≤fac (n+1):=by
 show fac n≤(n+1)*fac n
 exact Nat.le_mul_of_pos_left _ ⋯
theorem z6X{a b:Nat}(h:a≤b):fac a≤fac b:=by
 induction h with
 |refl=>exact ar _
 |step _ ih=>exact aI ih (x0B _)
theorem y2x{α:Type}{B:Nat}:∀{L:List (List α)},(∀l∈L,l.length≤B)->L.flatten.length≤L.length*B
 |[],_=>bn _
 |l::L,h=>by
  have ih:=y2x (L:=L) fun x hx=>h x (ae _ hx)
  have h1:=h l ac
  rw[bz,aB,bc,Nat.succ_mul]
  omega
theorem z9j{T:LB}{f:List Nat}{y:Nat}(hy:y∈f)(own:at2 T y y=false):(f.filter fun z=>at2 T y z).length<f.length:=by
 rw[List.length_filter_lt_length_iff_exists]
 exact⟨y,hy,by rw[own];exact av⟩
theorem z7d{T:LB}:∀{n:Nat} {c f:List Nat},(∀x∈f,at2 T x x=false)->(z6b T n c f).length≤fac f.length
 |0,_,f,_=>bn _
 |_+1,c,[],_=>ar _
 |n+1,c,x::f,own=>by
  have:∀l∈(x::f).map fun y=>z6b T n (c++[y]) ((x::f).filter fun z=>at2 T y z),l.length≤fac f.length:=fun l hl=>by
   obtain⟨y,hy,rfl⟩:=bf.mp hl
   refine aI (z7d fun z hz=>own z (af.mp hz).1) (z6X ?_)
   have:=z9j hy (own y hy)
   rw[bc]at this
   omega
  have:=y2x this
  rw[ao]at this
  exact this
theorem y3H{m:Nat}{T:LB}(sq:Sq m T)(own:∀i<m,at2 T i i=false)(hm:m≤8):∀{n:Nat} {c f:List Nat},f.length<n->f.length≤8->c.length+f.length≤100->(∀x∈f,x<m)->z1k n [z0q T,thD c,thD f]=some (.lst ((z6b T n c f).map thD))
 |0,c,f,h,_,_,_=>absurd h ⋯
 |n+1,c,[],h,h8,hc,hf=>by
  refine y4e rfl ?_
  have tr:z5S (thD [])=some false:=rfl
  simp_all! only[z2i,tr,z0c]
  rfl
 |n+1,c,x::f,h,h8,hc,hf=>by
  refine y4e rfl ?_
  obtain⟨F,hF⟩:∃F,F=x::f:=⟨_,rfl⟩
  have tr:z5S (thD F)=some true:=by rw[hF];rfl
  have e0:z6b T (n+1) c (x::f)=(F.map fun y=>z6b T n (c++[y]) (F.filter fun z=>at2 T y z)).flatten:=by rw[hF];rfl
  rw[e0]
  rw[←hF]at h h8 hc hf ⊢
  have nl:D.lst [] = .lst (([]:List (List Nat)).map thD):=rfl
  have ownF:∀x∈F,at2 T x x=false:=fun x hx=>own x (hf x hx)
  simp_all! only[z2i,tr,z3E,z1D]
  rw[nl]
  refine z0G (I:=fun s=>∃o1 o4,s=[some (.sh (z0q T)),o1,some (.sh (thD F)),some (.ow (.lst ((F.map fun y=>z6b T n (c++[y]) (F.filter fun z=>at2 T y z)).flatten.map thD))),o4]) ?_ ?_
  ·refine z1q (enc:=nD) (fun pre s=>∃o4,s=[some (.sh (z0q T)),some (.ow (thD c)),some (.sh (thD F)),some (.ow (.lst ((pre.map fun y=>z6b T n (c++[y]) (F.filter fun z=>at2 T y z)).flatten.map thD))),o4]) ⟨_,rfl⟩ ?_ fun s ⟨o4,e⟩=>⟨s,rfl,_,_,e⟩
   rintro pre y post e s ⟨o4,rfl⟩
   have hy:y∈F:=by rw[e];simp
   have t1:D.lst [.int (y:Int)]=thD [y]:=rfl
   have ct:=z7x (a:=c) (b:=[y]) (by simp;omega)
   have cx:z1C (some (F.map nD)) (z1N (z0v (d2 ixD (d2 ixD (z0b 0) (z0b 4)) (z0b 5))) (z0b 5) [some (z0q T),some (thD c),some (thD F),some (.lst ((pre.map fun y=>z6b T n (c++[y]) (F.filter fun z=>at2 T y z)).flatten.map thD)),some (.int (y:Int))])=some ((F.filter fun z=>at2 T y z).map nD):=
    z5H (fun z=>at2 T y z) nD ⋯ (fun z hz=>by
     simp! only[nD,ix2 sq (hf y hy) (hf z hz)]) fun z _ _=>by simp! only[]
   have fl:=z9j hy (ownF y hy)
   have ih:=y3H sq own hm (n:=n) (c:=c++[y]) (f:=F.filter fun z=>at2 T y z) ⋯ ⋯ (by simp;omega) fun z hz=>hf z (af.mp hz).1
   have l1:(pre.map fun y=>z6b T n (c++[y]) (F.filter fun z=>at2 T y z)).flatten.length≤40320*8:=by
    refine aI (y2x (B:=40320) fun l hl=>?_) ?_
    ·obtain⟨z,hz,rfl⟩:=bf.mp hl
     refine aI (z7d fun q hq=>ownF q (af.mp hq).1) ?_
     exact aI (z6X (show _≤8 from aI (bd _ _) h8)) nofun
    ·rw[ao]
     have:pre.length≤8:=by
      have:=congrArg List.length e
      simp at this
      omega
     exact aI (Nat.mul_le_mul_right _ this) nofun
   have l2:(z6b T n (c++[y]) (F.filter fun z=>at2 T y z)).length≤40320:=by
    refine aI (z7d fun q hq=>ownF q (af.mp hq).1) ?_
    exact aI (z6X (show _≤8 from aI (bd _ _) h8)) nofun
   obtain⟨Y,hY⟩:∃Y,Y=z6b T n (c++[y]) (F.filter fun z=>at2 T y z):=⟨_,rfl⟩
   obtain⟨Z,hZ⟩:∃Z,Z=(pre.map fun y=>z6b T n (c++[y]) (F.filter fun z=>at2 T y z)).flatten:=⟨_,rfl⟩
   obtain⟨cy,hcy⟩:∃cy,cy=c++[y]:=⟨_,rfl⟩
   rw[←hcy]at ih ct
   rw[←hcy]at hY
   rw[←hcy]at l2
   rw[←hY]at ih l2
   rw[←hZ]at l1 cx ⊢
   have ex:extV (some (.lst (Z.map thD))) (some (.lst (Y.map thD)))=some (.lst ((Z++Y).map thD)):=by
    rw[eo_ext (by simp;omega),aR]
   have tl:∀W:List Nat,D.lst (W.map nD)=thD W:=fun _=>rfl
   simp! only[nD,t1,ct,z1U,tl,z1D,cx,ih,ex,z0c]
   have key:((pre++[y]).map fun y=>z6b T n (c++[y]) (F.filter fun z=>at2 T y z)).flatten=Z++Y:=by
    rw[aR,List.flatten_append,←hZ]
    congr 1
    show z6b T n (c++[y]) (F.filter fun z=>at2 T y z)++[]=Y
    rw[aF,hY,hcy]
   rw[key]
   exact⟨_,rfl⟩
  ·rintro s ⟨o1,o4,rfl⟩
   simp! only[z0c]
structure Ant(m:Nat)(T:LB):Prop where
 sq:Sq m T
 own:∀i<m,at2 T i i=false
 ant:∀i<m,∀j<m,at2 T i j=true->at2 T j i=false
theorem z4D{T:LB}{a:Nat}{r:List Nat}:chB T (a::r)=(r.all (fun j=>at2 T a j)&&chB T r):=rfl
theorem z9Z{T:LB}:∀{a b:List Nat},chB T (a++b)=(chB T a&&chB T b&&a.all fun x=>b.all fun y=>at2 T x y)
 |[],b=>by simp[chB]
 |x::a,b=>by
  have ih:=z9Z (T:=T) (a:=a) (b:=b)
  rw[cT,z4D,z4D,List.all_append,ih,dv]
  cases a.all (fun j=>at2 T x j) <;> cases b.all (fun j=>at2 T x j) <;> cases chB T a <;> cases chB T b <;> simp
theorem chB_iff{T:LB}{th:List Nat}:chB T th=true↔th.Pairwise fun x y=>at2 T x y=true:=by
 induction th with
 |nil=>simp[chB]
 |cons a r ih=>rw[z4D,aJ,ih,aM,az]
theorem z9u{T:LB}:∀{n:Nat} {c f e:List Nat},e∈z6b T n c f->∃q,e=c++q∧∀x∈q,x∈f
 |0,_,_,_,h=>nomatch h
 |_+1,c,[],e,h=>by
  have:e=c:=by simpa[z6b] using h
  exact⟨[],by simp[this],fun _ z=>nomatch z⟩
 |n+1,c,x::f,e,h=>by
  obtain⟨l,hl,he⟩:=cA.mp (show e∈((x::f).map fun y=>z6b T n (c++[y]) ((x::f).filter fun z=>at2 T y z)).flatten from h)
  obtain⟨y,hy,rfl⟩:=bf.mp hl
  obtain⟨q,rfl,hq⟩:=z9u he
  refine⟨y::q,by simp,fun z hz=>?_⟩
  rcases ai.mp hz with w | w
  ·rw[w];exact hy
  ·exact(af.mp (hq z w)).1
theorem y3W{T:LB}:∀{n:Nat} {c f r:List Nat},f.length<n->(∀x∈f,at2 T x x=false)->chB T (c++r)=true->(∀x∈r,x∈f)->(∀y∈f,∀x∈c,at2 T x y=true)->∃e∈z6b T n c f,(∀x∈c++r,x∈e)∧chB T e=true
 |0,_,_,_,h,_,_,_,_=>absurd h ⋯
 |n+1,c,[],r,_,_,hc,hr,_=>by
  have:r=[]:=by
   cases r with
   |nil=>rfl
   |cons x r=>exact absurd (hr x ac) (by simp)
  subst this
  rw[aF]at hc ⊢
  exact⟨c,by simp[z6b],fun x hx=>hx,hc⟩
 |n+1,c,x::f,r,hn,own,hc,hr,hb=>by
  have go:∀(y:Nat) (r':List Nat),y∈x::f->chB T ((c++[y])++r')=true->(∀z∈r',z∈x::f)->∃e∈z6b T (n+1) c (x::f),(∀z∈(c++[y])++r',z∈e)∧chB T e=true:=fun y r' hy hc' hr'=>by
   have fl:=z9j hy (own y hy)
   have hyr:∀z∈r',at2 T y z=true:=fun z hz=>by
    rw[aP,z9Z]at hc'
    have:=(aq.mp (aq.mp hc').1).2
    rw[List.singleton_append,z4D]at this
    exact az.mp (aq.mp this).1 z hz
   obtain⟨e,he,h1,h2⟩:=y3W (n:=n) (c:=c++[y]) (f:=(x::f).filter fun z=>at2 T y z) (r:=r') ⋯ (fun z hz=>own z (af.mp hz).1) hc' (fun z hz=>af.mpr ⟨hr' z hz,hyr z hz⟩) (fun z hz w hw=>by
    rcases au.mp hw with q | q
    ·exact hb z (af.mp hz).1 w q
    ·rw[ag.mp q]
     have:=(af.mp hz).2
     simpa using this)
   exact⟨e,cA.mpr ⟨_,bf.mpr ⟨y,hy,rfl⟩,he⟩,h1,h2⟩
  cases r with
  |nil=>
   rw[aF]at hc
   obtain⟨e,he,h1,h2⟩:=go x [] ac (by
    rw[aF,z9Z,hc]
    rw[aJ,az]
    refine⟨by simp[chB],fun z hz=>?_⟩
    simp[hb x ac z hz]) (fun z hz=>nomatch hz)
   exact⟨e,he,fun z hz=>h1 z (by simp at hz ⊢;exact .inl hz),h2⟩
  |cons y r=>
   obtain⟨e,he,h1,h2⟩:=go y r (hr y ac) (by rw[aP];exact hc) fun z hz=>hr z (ae _ hz)
   exact⟨e,he,fun z hz=>h1 z (by rw[aP];exact hz),h2⟩
def insC(T:LB)(o:Nat)(c:List Nat):List Nat:=(c.filter fun x=>at2 T x o)++[o]++c.filter fun x=>at2 T o x
def y0u(T:LB)(a o:Nat)(found:List (List Nat)):List (List Nat):=if at2 T a o=true then found++(found.map (insC T o)).filter (z5G T)else found
def hdL(T:LB)(a:Nat):Nat->List (List Nat)
 |0=>[[a]]
 |k+1=>y0u T a k (hdL T a k)
theorem hd_ok{m:Nat}{T:LB}{a:Nat}(ha:a<m)(own:at2 T a a=false):∀{k:Nat},k≤m->∀c∈hdL T a k,chB T c=true∧(∃r,c=a::r)∧∀x∈c,x<m
 |0,_,c,hc=>by
  have:c=[a]:=by simpa[hdL] using hc
  subst this
  exact⟨by simp[chB],⟨[],rfl⟩,fun x hx=>by rw[ag.mp hx];exact ha⟩
 |k+1,hk,c,hc=>by
  have ih:=hd_ok (k:=k) ha own ⋯
  have hc:c∈y0u T a k (hdL T a k):=hc
  unfold y0u at hc
  split at hc
  ·rename_i hak
   rcases au.mp hc with z | z
   ·exact ih c z
   ·obtain⟨hz,hch⟩:=af.mp z
    obtain⟨c0,h0,rfl⟩:=bf.mp hz
    obtain⟨_,⟨r,rfl⟩,hlt⟩:=ih c0 h0
    refine⟨(aq.mp hch).2,?_,fun x hx=>?_⟩
    ·unfold insC
     rw[bO,if_pos hak]
     exact⟨_,rfl⟩
    ·unfold insC at hx
     rcases au.mp hx with w | w
     ·rcases au.mp w with w | w
      ·exact hlt x (af.mp w).1
      ·rw[ag.mp w];omega
     ·exact hlt x (af.mp w).1
  ·exact ih c hc
theorem x3w{m:Nat}{T:LB}(A:Ant m T){a:Nat}{r:List Nat}(hc:chB T (a::r)=true)(hlt:∀x∈a::r,x<m):∀{k:Nat},k≤m->(a::r.filter fun x=>decide (x<k))∈hdL T a k
 |0,_=>by
  have:(r.filter fun x=>decide (x<0))=[]:=by rw[aT];simp
  rw[this]
  simp[hdL]
 |k+1,hk=>by
  have ih:=x3w A hc hlt (k:=k) ⋯
  have pw:=chB_iff.mp hc
  have nd:(a::r).Nodup:=pw.imp_of_mem fun {x y} hx hy z=>fun e=>by
   subst e
   rw[A.own x (hlt x hx)]at z
   cases z
  show _∈y0u T a k (hdL T a k)
  unfold y0u
  by_cases hkr:k∈r
  ·have hak:at2 T a k=true:=(aM.mp pw).1 k hkr
   rw[if_pos hak]
   refine aC _ (af.mpr ⟨bf.mpr ⟨_,ih,?_⟩,?_⟩)
   ·obtain⟨p,q,rfl⟩:=dD hkr
    have pw2:=(aM.mp pw).2
    obtain⟨_,pq,pc⟩:=cF.mp pw2
    have hp:∀x∈p,at2 T x k=true:=fun x hx=>pc x hx k ac
    have hq:∀x∈q,at2 T k x=true:=fun x hx=>(aM.mp pq).1 x hx
    have km:k<m:=by omega
    have hp':∀x∈p,at2 T k x=false:=fun x hx=>A.ant x (hlt x (by simp[hx])) k km (hp x hx)
    have hq':∀x∈q,at2 T x k=false:=fun x hx=>A.ant k km x (hlt x (by simp[hx])) (hq x hx)
    have hka:at2 T k a=false:=A.ant a (hlt a ac) k km hak
    have nd2:=(aA.mp nd).2
    have nk:k∉p∧k∉q:=by
     obtain⟨_,n2,n3⟩:=aO.mp nd2
     exact⟨fun z=>n3 k z k ac rfl,(aA.mp n2).1⟩
    have f1:∀l:List Nat,k∉l->(l.filter fun x=>decide (x<k+1))=l.filter fun x=>decide (x<k):=fun l hl=>cN fun x hx=>by
     have:x≠k:=fun z=>hl (z ▸ hx)
     rw[decide_eq_decide]
     omega
    have e1:((p++k::q).filter fun x=>decide (x<k))=(p.filter fun x=>decide (x<k))++q.filter fun x=>decide (x<k):=by
     rw[bS,bO,if_neg (by simp)]
    have e2:((p++k::q).filter fun x=>decide (x<k+1))=(p.filter fun x=>decide (x<k))++k::q.filter fun x=>decide (x<k):=by
     rw[bS,bO,if_pos (by simp),f1 p nk.1,f1 q nk.2]
    rw[e1,e2]
    unfold insC
    have g1:((a::((p.filter fun x=>decide (x<k))++q.filter fun x=>decide (x<k))).filter fun x=>at2 T x k)=a::p.filter fun x=>decide (x<k):=by
     rw[bO,if_pos hak,bS]
     have h1:((p.filter fun x=>decide (x<k)).filter fun x=>at2 T x k)=p.filter fun x=>decide (x<k):=ca.mpr fun x hx=>hp x (af.mp hx).1
     have h2:((q.filter fun x=>decide (x<k)).filter fun x=>at2 T x k)=[]:=aT.mpr fun x hx=>by rw[hq' x (af.mp hx).1];exact av
     rw[h1,h2,aF]
    have g2:((a::((p.filter fun x=>decide (x<k))++q.filter fun x=>decide (x<k))).filter fun x=>at2 T k x)=q.filter fun x=>decide (x<k):=by
     rw[bO,if_neg (by rw[hka];exact av),bS]
     have h1:((p.filter fun x=>decide (x<k)).filter fun x=>at2 T k x)=[]:=aT.mpr fun x hx=>by rw[hp' x (af.mp hx).1];exact av
     have h2:((q.filter fun x=>decide (x<k)).filter fun x=>at2 T k x)=q.filter fun x=>decide (x<k):=ca.mpr fun x hx=>hq x (af.mp hx).1
     rw[h1,h2,cG]
    rw[g1,g2]
    simp
   ·refine aq.mpr ⟨rfl,?_⟩
    rw[chB_iff]
    exact pw.sublist (List.Sublist.cons₂ a dh)
  ·have e:(r.filter fun x=>decide (x<k+1))=r.filter fun x=>decide (x<k):=cN fun x hx=>by
    have:x≠k:=fun z=>hkr (z ▸ hx)
    rw[decide_eq_decide]
    omega
   rw[e]
   split
   ·exact aQ _ ih
   ·exact ih
theorem y9N{m:Nat}{T:LB}(A:Ant m T){a:Nat}{r:List Nat}(hc:chB T (a::r)=true)(hlt:∀x∈a::r,x<m):(a::r)∈hdL T a m:=by
 have:=x3w A hc hlt (k:=m) (ar _)
 have e:(r.filter fun x=>decide (x<m))=r:=ca.mpr fun x hx=>decide_eq_true (hlt x (ae _ hx))
 rwa [e]at this
def crP(T:LB)(m:Nat)(c:List Nat):Bool:=decide (((btL T m c).length:Int)=0)
def crB(T:LB)(m a:Nat):Bool:=(hdL T a m).any (crP T m)
def btN(T:LB)(m a:Nat):List Nat:=(ah m).filter fun j=>at2 T a j
theorem bt_nil{T:LB}{m:Nat}{c:List Nat}:crP T m c=true↔∀x<m,∃y∈c,at2 T x y=false:=by
 unfold crP btL
 rw[decide_eq_true_iff]
 constructor
 ·intro h x hx
  have h:((ah m).filter fun a=>c.all fun j=>at2 T a j)=[]:=bx.mp ⋯
  have:=aT.mp h x (ak.mpr hx)
  rw[az]at this
  by_cases hq:∃y∈c,at2 T x y=false
  ·exact hq
  ·exact absurd (fun y hy=>by
    cases e:at2 T x y with
    |true=>rfl
    |false=>exact absurd ⟨y,hy,e⟩ hq) this
 ·intro h
  have:((ah m).filter fun a=>c.all fun j=>at2 T a j)=[]:=aT.mpr fun x hx=>by
   obtain⟨y,hy,e⟩:=h x (ak.mp hx)
   intro z
   rw[az.mp z y hy]at e
   cases e
  rw[this]
  rfl
theorem cr_end{m:Nat}{T:LB}(A:Ant m T){a n:Nat}(ha:a<m)(hn:m<n):((z6b T n [a] (btN T m a)).any fun e=>z5G T e&&crP T m e)=crB T m a:=by
 have hlt:∀x∈btN T m a,x<m:=fun x hx=>ak.mp (af.mp hx).1
 rw[bI,bP]
 unfold crB
 rw[bP]
 constructor
 ·rintro⟨e,he,h⟩
  obtain⟨h1,h2⟩:=aq.mp h
  obtain⟨q,rfl,hq⟩:=z9u he
  refine⟨[a]++q,y9N A (aq.mp h1).2 fun x hx=>?_,h2⟩
  rcases ai.mp hx with z | z
  ·rw[z];exact ha
  ·exact hlt x (hq x z)
 ·rintro⟨c,hc,h⟩
  obtain⟨h1,⟨r,rfl⟩,h3⟩:=hd_ok ha (A.own a ha) (ar _) c hc
  have hbt:(btN T m a).length≤m:=aI (bd _ _) (by simp)
  have h1':(∀x∈r,at2 T a x=true):=az.mp (aq.mp (show(r.all (fun j=>at2 T a j)&&chB T r)=true from h1)).1
  obtain⟨e,he,g1,g2⟩:=y3W (T:=T) (n:=n) (c:=[a]) (f:=btN T m a) (r:=r) ⋯ (fun x hx=>A.own x (hlt x hx)) h1 (fun x hx=>af.mpr ⟨ak.mpr (h3 x (ae _ hx)),h1' x hx⟩) (fun y hy x hx=>by
   rw[ag.mp hx]
   have:=(af.mp hy).2
   simpa using this)
  refine⟨e,he,aq.mpr ⟨aq.mpr ⟨?_,g2⟩,?_⟩⟩
  ·have:=g1 a (by simp)
   cases e with
   |nil=>cases this
   |cons _ _=>rfl
  ·rw[bt_nil]at h ⊢
   intro x hx
   obtain⟨y,hy,e'⟩:=h x hx
   exact⟨y,g1 y hy,e'⟩
theorem y4M{T:LB}:∀{n:Nat} {c f e:List Nat},e∈z6b T n c f->chB T c=true->(∀y∈f,∀x∈c,at2 T x y=true)->chB T e=true
 |0,_,_,_,h,_,_=>nomatch h
 |_+1,c,[],e,h,hc,_=>by
  have:e=c:=by simpa[z6b] using h
  rw[this];exact hc
 |n+1,c,x::f,e,h,hc,hb=>by
  obtain⟨l,hl,he⟩:=cA.mp (show e∈((x::f).map fun y=>z6b T n (c++[y]) ((x::f).filter fun z=>at2 T y z)).flatten from h)
  obtain⟨y,hy,rfl⟩:=bf.mp hl
  refine y4M he ?_ fun z hz w hw=>?_
  ·rw[z9Z,hc]
   rw[aJ,az]
   refine⟨by simp[chB],fun z hz=>?_⟩
   simp[hb y hy z hz]
  ·rcases au.mp hw with q | q
   ·exact hb z (af.mp hz).1 w q
   ·rw[ag.mp q]
    have:=(af.mp hz).2
    simpa using this
def y2c(T:LB)(m a:Nat):List (List Nat):=z6b T 12 [a] (btN T m a)
structure Ech(m:Nat)(T:LB)(a:Nat)(e:List Nat):Prop where
 ch:z5G T e=true
 lt:∀x∈e,x<m
 len:e.length≤m
 hd:∃q,e=a::q
theorem z9w{m:Nat}{T:LB}(A:Ant m T){a:Nat}(ha:a<m){e:List Nat}(he:e∈y2c T m a):Ech m T a e:=by
 obtain⟨q,rfl,hq⟩:=z9u he
 have hlt:∀x∈[a]++q,x<m:=fun x hx=>by
  rcases ai.mp hx with z | z
  ·rw[z];exact ha
  ·exact ak.mp (af.mp (hq x z)).1
 have hc:chB T ([a]++q)=true:=y4M he (by simp[chB]) fun y hy x hx=>by
  rw[ag.mp hx]
  have:=(af.mp hy).2
  simpa using this
 have nd:([a]++q).Nodup:=(chB_iff.mp hc).imp_of_mem fun {x y} hx hy z=>fun e=>by
  subst e
  rw[A.own x (hlt x hx)]at z
  cases z
 exact⟨aq.mpr ⟨rfl,hc⟩,hlt,by simpa using List.Nodup.length_le_of_subset nd fun x hx=>ak.mpr (hlt x hx),q,rfl⟩
theorem y2I{T:LB}{m a:Nat}:(btN T m a).length≤m:=aI (bd _ _) (by simp)
theorem x1E{m:Nat}{T:LB}(A:Ant m T)(hm:m≤8){a:Nat}:(y2c T m a).length≤40320:=by
 refine aI (z7d fun x hx=>A.own x (ak.mp (af.mp hx).1)) ?_
 have:=y2I (T:=T) (m:=m) (a:=a)
 exact aI (z6X (show _≤8 by omega)) nofun
theorem y6G{m:Nat}{T:LB}(A:Ant m T)(hm:m≤8){a:Nat}(ha:a<m):z2c [z0q T,thD [a],thD (btN T m a)]=some (.lst ((y2c T m a).map thD)):=by
 have:=y2I (T:=T) (m:=m) (a:=a)
 exact y3H A.sq A.own hm (n:=12) ⋯ ⋯ (by simp;omega) fun x hx=>ak.mp (af.mp hx).1
def bpD(T:LB)(m:Nat)(c:List Nat):D:=.tup [thD c,nD ((btL T m c).headD 0)]
def x2A(T:LB)(m a:Nat):D:=match (y2c T m a).find? (crP T m)with
 |some c=>.tup [.str "chain",thD c]
 |none=>.tup [.str "beaten",.lst ((y2c T m a).map (bpD T m))]
theorem st_cr{m:Nat}{T:LB}(A:Ant m T)(hm:m≤8){a:Nat}{c:List Nat}(h:Ech m T a c):z5C [z0q T,thD c]=some (.bl (crP T m c)):=by
 have h1:=h.len
 have:=x0c A.sq ⋯ (th:=c) ⋯ h.lt
 rw[h.ch,cS]at this
 exact this
theorem y0L{α:Type}{p:α->Bool}:∀{l pre post:List α} {x:α},l=pre++x::post->(∀y∈pre,p y=false)->p x=true->l.find? p=some x
 |_,[],post,x,e,_,hx=>by rw[e,cG,bH,hx]
 |_,y::pre,post,x,e,hp,hx=>by
  rw[e,cT,bH,hp y ac]
  exact y0L rfl (fun z hz=>hp z (ae _ hz)) hx
theorem y3M{m:Nat}{T:LB}(A:Ant m T)(hm:m≤8){a:Nat}(ha:a<m):z2y [z0q T,.int (a:Int)]=some (x2A T m a):=by
 refine z0z rfl ?_
 have e1:=y6G A hm ha
 have e2:=y0U A.sq ⋯ ha
 have e2:z1u [z0q T,.int (a:Int)]=some (thD (btN T m a)):=e2
 have t1:D.lst [.int (a:Int)]=thD [a]:=rfl
 have f1:z4j (some [D.int (a:Int)])=some [D.int (a:Int)]:=rfl
 have l1:=x1E A hm (a:=a)
 have ok:∀c∈y2c T m a,Ech m T a c:=fun c hc=>z9w A ha hc
 unfold x2A
 obtain⟨E,hE⟩:∃E,E=y2c T m a:=⟨_,rfl⟩
 rw[←hE]at e1 l1 ok ⊢
 simp! only[z3J,f1,t1,e2,e1]
 refine y4X (I:=fun s=>∃o3,s=[some (.sh (z0q T)),some (.sh (.int (a:Int))),some (.sh (.lst (E.map thD))),o3]∧∀y∈E,crP T m y=false) ?_ ?_
 ·refine z1q (enc:=thD) (fun pre s=>∃o3,s=[some (.sh (z0q T)),some (.sh (.int (a:Int))),some (.sh (.lst (E.map thD))),o3]∧∀y∈pre,crP T m y=false) ⟨_,rfl,fun y hy=>by cases hy⟩ ?_ ?_
  ·rintro pre c post e s ⟨o3,rfl,hp⟩
   have hc:c∈E:=by rw[e];simp
   have st:=st_cr A hm (ok c hc)
   cases h:crP T m c with
   |true=>
    rw[h]at st
    rw[y0L e hp h]
    simp! only[st,z0c]
    exact .inr trivial
   |false=>
    rw[h]at st
    simp! only[st,z0c]
    refine⟨_,rfl,fun y hy=>?_⟩
    rcases au.mp hy with z | z
    ·exact hp y z
    ·rw[ag.mp z];exact h
  ·rintro s ⟨o3,rfl,hp⟩
   exact .inl ⟨_,rfl,_,rfl,hp⟩
 ·rintro s ⟨o3,rfl,hp⟩
  have hfn:E.find? (crP T m)=none:=fu.mpr fun y hy=>by rw[hp y hy];exact av
  rw[hfn]
  have cx:z1C (some (E.map thD)) (z1N z5z (mkT (z0j [z0b 4,d2 ixD (z0k z2K [z0b 0,z0b 4]) (dC (.int 0))])) [some (z0q T),some (.int (a:Int)),some (.lst (E.map thD)),shO o3])=some (E.map (bpD T m)):=by
   rw[z5i (by rw[ao];omega)]
   refine z6s (bpD T m) fun c hc=>?_
   have h1:=(ok c hc).len
   have bt:=z8X A.sq ⋯ (th:=c) ⋯ (ok c hc).lt
   have hne:btL T m c≠[]:=fun z=>by
    have:=hp c hc
    unfold crP at this
    rw[z]at this
    simp at this
   have i0:ixD (thD (btL T m c)) (.int 0)=some (nD ((btL T m c).headD 0)):=by
    cases hb:btL T m c with
    |nil=>exact absurd hb hne
    |cons x w=>exact z2q (j:=0) rfl
   simp! only[bt,i0]
   rfl
  simp! only[cx,z0c]
theorem any_cr{m:Nat}{T:LB}(A:Ant m T)(hm:m≤8){a:Nat}(ha:a<m):(y2c T m a).any (crP T m)=crB T m a:=by
 have h:=cr_end A ha (show m<12 by omega)
 have e:((z6b T 12 [a] (btN T m a)).any fun e=>z5G T e&&crP T m e)=(y2c T m a).any (crP T m):=by
  show((y2c T m a).any fun e=>z5G T e&&crP T m e)=_
  rw[bI,bP,bP]
  constructor
  ·rintro⟨c,hc,h⟩
   exact⟨c,hc,(aq.mp h).2⟩
  ·rintro⟨c,hc,h⟩
   exact⟨c,hc,aq.mpr ⟨(z9w A ha hc).ch,h⟩⟩
 rw[←e,h]
inductive Pap(T:LB)(m a:Nat):Prop
 |chain (c:List Nat):c∈y2c T m a->crP T m c=true->x2A T m a = .tup [.str "chain",thD c]->crB T m a=true->Pap T m a
 |beaten:(∀c∈y2c T m a,crP T m c=false)->x2A T m a = .tup [.str "beaten",.lst ((y2c T m a).map (bpD T m))]->crB T m a=false->Pap T m a
theorem pap_of{m:Nat}{T:LB}(A:Ant m T)(hm:m≤8){a:Nat}(ha:a<m):Pap T m a:=by
 have h:=any_cr A hm ha
 cases hf:(y2c T m a).find? (crP T m)with
 |some c=>
  have h1:=List.mem_of_find?_eq_some hf
  have h2:=List.find?_some hf
  refine .chain c h1 h2 (by unfold x2A;rw[hf]) ?_
  rw[←h]
  exact bP.mpr ⟨c,h1,h2⟩
 |none=>
  have h1:=fu.mp hf
  refine .beaten (fun c hc=>by have:=h1 c hc;simpa using this) (by unfold x2A;rw[hf]) ?_
  rw[←h,cO]
  exact h1
theorem hd_ix{m:Nat}{T:LB}{a:Nat}{e:List Nat}(h:Ech m T a e):ixD (thD e) (.int 0)=some (.int (a:Int)):=by
 obtain⟨q,rfl⟩:=h.hd
 exact ix0
theorem Full.ant{m:Nat}{T:LB}(F:Full m T):Ant m T:=⟨F.sq,F.own,fun i hi j hj h=>by
 have hne:i≠j:=fun z=>by
  subst z
  rw[F.own i hi]at h
  cases h
 have:=F.two i hi j hj hne
 rw[h]at this
 cases e:at2 T j i with
 |false=>rfl
 |true=>rw[e]at this;cases this⟩
theorem z8O{T:LB}:∀{c:List Nat},chB T c=true->z2t T c=c
 |[],_=>rfl
 |a::r,h=>by
  have h:=aq.mp (show(r.all (fun j=>at2 T a j)&&chB T r)=true from h)
  have ih:=z8O h.2
  unfold z2t
  rw[ih,if_pos h.1]
theorem y0C{T:LB}{c:List Nat}(hc:chB T c=true):∀{o:List Nat},(∀x∈o,∃y∈c,at2 T x y=false)->z2t T (o++c)=c
 |[],_=>z8O hc
 |x::o,h=>by
  have ih:=y0C hc (o:=o) fun y hy=>h y (ae _ hy)
  obtain⟨y,hy,e⟩:=h x ac
  rw[cT,z2t,ih,if_neg]
  intro z
  rw[az.mp z y hy]at e
  cases e
def x2Z(m:Nat)(c:List Nat):List Nat:=(ah m).filter fun x=>!c.contains x
theorem x2f{m:Nat}{c:List Nat}(nd:c.Nodup)(lt:∀x∈c,x<m):(x2Z m c++c).Perm (ah m):=by
 refine(bY ?_ cz).mpr fun x=>?_
 ·refine aO.mpr ⟨List.nodup_range.filter _,nd,fun x hx y hy e=>?_⟩
  subst e
  have:=(af.mp hx).2
  rw[aw.mpr hy]at this
  cases this
 ·rw[au,ak]
  constructor
  ·rintro (h | h)
   ·exact ak.mp (af.mp h).1
   ·exact lt x h
  ·intro h
   by_cases hc:x∈c
   ·exact .inr hc
   ·refine .inl (af.mpr ⟨ak.mpr h,?_⟩)
    have:c.contains x=false:=by rw[←br,aw];exact hc
    rw[this]
    rfl
theorem chB_nd{m:Nat}{T:LB}(own:∀i<m,at2 T i i=false){c:List Nat}(hc:chB T c=true)(lt:∀x∈c,x<m):c.Nodup:=(chB_iff.mp hc).imp_of_mem fun {x y} hx hy z=>fun e=>by
 subst e
 rw[own x (lt x hx)]at z
 cases z
theorem k_bb:eqD (.str "beaten") (.str "beaten")=some (.bl true):=z2u (by decide +kernel) (by decide +kernel) (by decide +kernel)
theorem k_cb:eqD (.str "chain") (.str "beaten")=some (.bl false):=z2u (by decide +kernel) (by decide +kernel) (by decide +kernel)
theorem k_oo:eqD (.str "order") (.str "order")=some (.bl true):=z2u (by decide +kernel) (by decide +kernel) (by decide +kernel)
theorem k_bo:eqD (.str "beaten") (.str "order")=some (.bl false):=z2u (by decide +kernel) (by decide +kernel) (by decide +kernel)
theorem x0I{m:Nat}{T:LB}(A:Ant m T)(hm:m≤8){a:Nat}(ha:a<m){c:List Nat}(hc:c∈y2c T m a)(hp:x2A T m a = .tup [.str "chain",thD c]):z3u [z0q T,.int (a:Int)]=some (.tup [.str "order",thD (x2Z m c++c),thD c]):=by
 refine z0z rfl ?_
 have pe:=y3M A hm ha
 rw[hp]at pe
 have h:=z9w A ha hc
 have hl:=h.len
 have p0:ixD (.tup [.str "chain",thD c]) (.int 0)=some (.str "chain"):=rfl
 have p1:ixD (.tup [.str "chain",thD c]) (.int 1)=some (thD c):=rfl
 obtain⟨pd,hpd⟩:∃pd,pd=D.tup [.str "chain",thD c]:=⟨_,rfl⟩
 rw[←hpd]at p0 p1 pe
 have cx:∀d4:Option D,z1C (some (z5y 0 m)) (z1N (z0D (d2 y6g (z0b 5) (z0b 3))) (z0b 5) [some (z0q T),some (.int (a:Int)),some pd,some (thD c),d4])=some ((x2Z m c).map nD):=fun d4=>by
  rw[z1W]
  exact z5H (fun x=>!c.contains x) nD (by simp;omega) (fun x hx=>by simp! only[nD,z5u]) fun x _ _=>by simp! only[]
 have tl:∀W:List Nat,D.lst (W.map nD)=thD W:=fun _=>rfl
 have ol:(x2Z m c).length≤m:=by
  have:=bd (fun x=>!c.contains x) (ah m)
  rw[bJ]at this
  exact this
 have ct:=z7x (a:=x2Z m c) (b:=c) ⋯
 simp! only[z4E,pe,p0,k_cb,p1,z2r,A.sq.1,z0K (show m≤1000000 by omega),cx,z1U,tl,ct,z0c]
theorem y9U{m:Nat}{T:LB}(A:Ant m T)(hm:m≤8){a:Nat}(ha:a<m){Q:D}(hp:x2A T m a = .tup [.str "beaten",Q]):z3u [z0q T,.int (a:Int)]=some (.tup [.str "beaten",Q]):=by
 refine z0z rfl ?_
 have pe:=y3M A hm ha
 rw[hp]at pe
 have p0:ixD (.tup [.str "beaten",Q]) (.int 0)=some (.str "beaten"):=rfl
 obtain⟨pd,hpd⟩:∃pd,pd=D.tup [.str "beaten",Q]:=⟨_,rfl⟩
 rw[←hpd]at p0 pe ⊢
 simp! only[z4E,pe,p0,k_bb,z0c]
theorem y6n{T:LB}{s x:Nat}{o:List Nat}:z1T T s (x::o)=z1T T (if at2 T x s=true then x else s) o:=rfl
theorem y4d{m:Nat}{T:LB}(F:Full m T){r0:List Nat}(hb:∀a∈r0,∀b<m,b∉r0->at2 T a b=true)(lt:∀a∈r0,a<m):∀{o:List Nat} {s:Nat},s<m->(∀x∈o,x<m)->(s∈r0∨∃x∈o,x∈r0)->z1T T s o∈r0
 |[],s,_,_,h=>h.elim id fun⟨_,z,_⟩=>nomatch z
 |x::o,s,hs,ho,h=>by
  have hx:=ho x ac
  rw[y6n]
  refine y4d F hb lt (by split <;> assumption) (fun y hy=>ho y (ae _ hy)) ?_
  by_cases hsr:s∈r0
  ·refine .inl ?_
   split
   ·rename_i hxs
    by_cases hxr:x∈r0
    ·exact hxr
    ·exact(F.no hx hs hxs (hb s hsr x hx hxr)).elim
   ·exact hsr
  ·rcases h with h | ⟨y,hy,hyr⟩
   ·exact absurd h hsr
   ·rcases ai.mp hy with rfl | hy
    ·rw[if_pos (hb y hyr s hs hsr)]
     exact .inl hyr
    ·exact .inr ⟨y,hy,hyr⟩
theorem y8b{m:Nat}{T:LB}(F:Full m T){r0:List Nat}{rest:List (List Nat)}(hr:rgL T m=r0::rest):(∀a∈r0,a<m)∧(∃a,a∈r0)∧∀a∈r0,∀b<m,b∉r0->at2 T a b=true:=by
 have R:=z6D (T:=T) (m:=m)
 obtain⟨a0,ha0,e0⟩:=(R.mem r0).mp (by rw[hr];exact ac)
 have lt:∀a∈r0,a<m:=fun a ha=>by
  rw[e0]at ha
  exact ak.mp (af.mp ha).1
 refine⟨lt,⟨a0,by rw[e0];exact af.mpr ⟨ak.mpr ha0,by simp⟩⟩,fun a ha b hb hn=>?_⟩
 have hin:cls m (fun a=>(rcL T m a).length) b∈rgL T m:=(R.mem _).mpr ⟨b,hb,rfl⟩
 have hbb:b∈cls m (fun a=>(rcL T m a).length) b:=af.mpr ⟨ak.mpr hb,by simp⟩
 rw[hr]at hin
 rcases ai.mp hin with z | z
 ·exact absurd (by rw[←z];exact hbb) hn
 ·have pw:=R.pw
  rw[hr]at pw
  have:=(aM.mp pw).1 _ z
  exact y1O F (lt a ha) hb (this.2.2 a ha b hbb)
theorem y1Z{T:LB}{a:Nat}{q:List Nat}(h:wk T a q){x0:Nat}{o:List Nat}(e:(a::q).reverse=x0::o):z1T T x0 o=a:=by
 have pre:∀{p post:List Nat},o=p++post->z1T T x0 p=lsN x0 p:=by
  intro p
  induction hn:p.length generalizing p with
  |zero=>intro post _;rw[bx.mp hn];rfl
  |succ n ih=>
   intro post eo
   have hne:p≠[]:=fun z=>by rw[z]at hn;cases hn
   obtain⟨p',x,rfl⟩:∃p' x,p=p'++[x]:=⟨p.dropLast,p.getLast hne,(List.dropLast_concat_getLast hne).symm⟩
   have eo':o=p'++x::post:=by rw[eo];simp
   have i:=ih (p:=p') (by simpa using hn) eo'
   rw[z7t,i,if_pos (wk_back h e eo'),y3z]
 rw[pre (post:=[]) (by simp),x1H e]
theorem y1A{T:LB}{x:Nat}{r:List Nat}:z2t T (x::r)=if((z2t T r).all fun j=>at2 T x j)=true then x::z2t T r else z2t T r:=rfl
theorem y2r{T:LB}:∀{o:List Nat},chB T (z2t T o)=true
 |[]=>rfl
 |x::r=>by
  rw[y1A]
  split
  ·rename_i h
   rw[z4D,h,y2r]
   rfl
  ·exact y2r
theorem y2p{T:LB}:∀{o:List Nat},∀x∈o,at2 T x x=false->∃y∈z2t T o,at2 T x y=false
 |z::r,x,hx,own=>by
  rw[y1A]
  by_cases h:((z2t T r).all fun j=>at2 T z j)=true
  ·rw[if_pos h]
   rcases ai.mp hx with rfl | hx
   ·exact⟨x,ac,own⟩
   ·obtain⟨y,hy,e⟩:=y2p x hx own
    exact⟨y,ae _ hy,e⟩
  ·rw[if_neg h]
   rcases ai.mp hx with rfl | hx
   ·rw[br]at h
    obtain⟨y,hy,e⟩:=dL.mp h
    exact⟨y,hy,by simpa using e⟩
   ·exact y2p x hx own
def y2J(T:LB):List Nat->Nat
 |a::r=>z1T T a r
 |[]=>0
def kS(k:Nat):Str:=if k=0 then "plain" else if k=1 then "ahead" else "rest"
def x2H(T:LB)(k:Nat)(o:List Nat):Nat:=if k=0 then y2J T o else if k=1 then(z2t T o).headD 0 else y2J T o.reverse
noncomputable def z8z(T:LB)(m k a:Nat):Bool:=if k=1 then crB T m a else((rgL T m).headD []).contains a
section
variable{m:Nat}{T:LB}
theorem led_eq(F:Full m T)(hm:m≤900)(h0:0<m){o:List Nat}(hp:o.Perm (ah m)){k:Nat}(hk:k<3):z1x [z0q T,.str (kS k),thD o]=some (.int (x2H T k o:Nat)):=by
 have hlen:=z1h hp
 have hk:k=0∨k=1∨k=2:=by omega
 rcases hk with rfl | rfl | rfl
 ·cases o with
  |nil=>simp at hlen;omega
  |cons a r=>
   show z1x [z0q T,.str "plain",thD (a::r)]=some (.int ((z1T T a r:Nat):Int))
   refine z0z rfl ?_
   simp! only[z3p,k_pp,x0Z F.sq (z3y hp),z0c]
 ·have hne:z2t T o≠[]:=by
   cases o with
   |nil=>simp at hlen;omega
   |cons a r=>exact(z7O (T:=T) (r:=r) (a:=a)).1
  show z1x [z0q T,.str "ahead",thD o]=some (.int (((z2t T o).headD 0:Nat):Int))
  cases hc:z2t T o with
  |nil=>exact absurd hc hne
  |cons c r=>
   have b2:=y8F F.sq hm hp
   rw[hc]at b2
   refine z0z rfl ?_
   simp! only[z3p,k_ap,k_aa,b2,ix0,List.headD_cons,z0c]
 ·have hr2:o.reverse.Perm (ah m):=(dH o).trans hp
  show z1x [z0q T,.str "rest",thD o]=some (.int ((y2J T o.reverse:Nat):Int))
  cases hr:o.reverse with
  |nil=>rw[hr]at hr2;have:=z1h hr2;simp at this;omega
  |cons l q=>
   rw[hr]at hr2
   show z1x [z0q T,.str "rest",thD o]=some (.int ((z1T T l q:Nat):Int))
   have b2:=rest_eq F.sq hr (z3y hr2)
   refine z0z rfl ?_
   simp! only[z3p,k_rp,k_ra,b2,z0c]
theorem y0x(F:Full m T)(h0:0<m){o:List Nat}(hp:o.Perm (ah m)):y2J T o<m∧((rgL T m).headD []).contains (y2J T o)=true:=by
 obtain⟨r0,rest,hr⟩:=(z6D (T:=T) (m:=m)).cons h0
 obtain⟨lt,⟨a0,ha0⟩,hb⟩:=y8b F hr
 have hlen:=z1h hp
 cases o with
 |nil=>simp at hlen;omega
 |cons a r=>
  have pl:=z3y hp
  have h:=y4d F hb lt (pl a ac) (fun x hx=>pl x (ae _ hx)) (by
   have:a0∈a::r:=hp.mem_iff.mpr (ak.mpr (lt a0 ha0))
   rcases ai.mp this with z | z
   ·exact .inl (by rw[←z];exact ha0)
   ·exact .inr ⟨a0,z,ha0⟩)
  refine⟨lt _ h,?_⟩
  rw[hr]
  exact aw.mpr h
theorem had_of(F:Full m T)(h0:0<m){o:List Nat}(hp:o.Perm (ah m)){k:Nat}(hk:k<3):x2H T k o<m∧z8z T m k (x2H T k o)=true:=by
 have hk:k=0∨k=1∨k=2:=by omega
 rcases hk with rfl | rfl | rfl
 ·exact y0x F h0 hp
 ·have hlen:=z1h hp
  have hne:z2t T o≠[]:=by
   cases o with
   |nil=>simp at hlen;omega
   |cons a r=>exact(z7O (T:=T) (r:=r) (a:=a)).1
  show(z2t T o).headD 0<m∧crB T m ((z2t T o).headD 0)=true
  have ch:=y2r (T:=T) (o:=o)
  have lt:∀x∈z2t T o,x<m:=fun x hx=>z3y hp x (chBk_sub.subset hx)
  have st:∀x<m,∃y∈z2t T o,at2 T x y=false:=fun x hx=>y2p x (hp.mem_iff.mpr (ak.mpr hx)) (F.own x hx)
  cases hc:z2t T o with
  |nil=>exact absurd hc hne
  |cons c r=>
   rw[hc]at ch lt st
   refine⟨lt c ac,?_⟩
   unfold crB
   rw[bP]
   exact⟨c::r,y9N F.ant ch lt,bt_nil.mpr st⟩
 ·exact y0x F h0 ((dH o).trans hp)
end
theorem k_so:eqD (.str "shut") (.str "order")=some (.bl false):=z2u (by decide +kernel) (by decide +kernel) (by decide +kernel)
theorem x0X{m:Nat}{T:LB}(F:Full m T)(h0:0<m)(hm:m≤8){k:Nat}(hk:k<3){a:Nat}(ha:a<m):
  ∃(P:D) (x:Str) (e:D),z0o [z0q T,.str (kS k),.int (a:Int)]=some (.val P)∧ixD P (.int 0)=some (.str x)∧eqD (.str x) (.str "order")=some (.bl (z8z T m k a)) ∧
   (z8z T m k a=true->ixD P (.int 1)=some e∧∃o:List Nat,e=thD o∧o.Perm (ah m)∧x2H T k o=a)∧(z8z T m k a=false->e = .non):=by
 obtain⟨r0,rest,hr⟩:=(z6D (T:=T) (m:=m)).cons h0
 have hd0:(rgL T m).headD []=r0:=by rw[hr];rfl
 have hk:k=0∨k=1∨k=2:=by omega
 rcases hk with rfl | rfl | rfl
 ·show ∃(P:D) (x:Str) (e:D),z0o [z0q T,.str "plain",.int (a:Int)]=some (.val P)∧ixD P (.int 0)=some (.str x)∧eqD (.str x) (.str "order")=some (.bl (((rgL T m).headD []).contains a))∧(((rgL T m).headD []).contains a=true->ixD P (.int 1)=some e∧∃o:List Nat,e=thD o∧o.Perm (ah m)∧y2J T o=a)∧(((rgL T m).headD []).contains a=false->e = .non)
  rw[hd0]
  by_cases h:a∈r0
  ·have hc:r0.contains a=true:=aw.mpr h
   obtain⟨q,e,w,p⟩:=x1d F ⋯ hr h
   rw[hc]
   refine⟨.tup [.str "order",thD (a::q).reverse], "order",thD (a::q).reverse,z4p rfl ?_,rfl,k_oo,fun _=>⟨rfl,(a::q).reverse,rfl,(dH _).trans p,?_⟩,(fun z=>nomatch z)⟩
   ·simp! only[z1b,k_pp,e,z0c]
   ·cases hz:(a::q).reverse with
    |nil=>simp at hz
    |cons x0 o=>exact y1Z w hz
  ·have hc:r0.contains a=false:=by rw[←br,aw];exact h
   have e:=y9y F ⋯ hr h
   rw[hc]
   refine⟨.tup [.str "shut",thD r0], "shut",.non,z4p rfl ?_,rfl,k_so,(fun z=>nomatch z),fun _=>rfl⟩
   simp! only[z1b,k_pp,e,z0c]
 ·show ∃(P:D) (x:Str) (e:D),z0o [z0q T,.str "ahead",.int (a:Int)]=some (.val P)∧ixD P (.int 0)=some (.str x)∧eqD (.str x) (.str "order")=some (.bl (crB T m a))∧(crB T m a=true->ixD P (.int 1)=some e∧∃o:List Nat,e=thD o∧o.Perm (ah m)∧(z2t T o).headD 0=a)∧(crB T m a=false->e = .non)
  have A:=F.ant
  cases pap_of A hm ha with
  |chain c hc hcr hp hcb=>
   have tc:=x0I A hm ha hc hp
   have h:=z9w A ha hc
   have ch:=(aq.mp h.ch).2
   have pm:=x2f (chB_nd A.own ch h.lt) h.lt
   have ov:z2t T (x2Z m c++c)=c:=y0C ch fun x hx=>bt_nil.mp hcr x (ak.mp (af.mp hx).1)
   rw[hcb]
   refine⟨.tup [.str "order",thD (x2Z m c++c),thD c], "order",thD (x2Z m c++c),z4p rfl ?_,rfl,k_oo,fun _=>⟨rfl,_,rfl,pm,?_⟩,(fun z=>nomatch z)⟩
   ·simp! only[z1b,k_ap,k_aa,tc,z0c]
   ·rw[ov]
    have ix:=hd_ix h
    cases c with
    |nil=>cases ix
    |cons c0 r=>
     have ix:some (D.int (c0:Int))=some (.int (a:Int)):=by rw[←ix];exact(ix0 (c:=c0) (r:=r)).symm
     cases ix
     rfl
  |beaten hn hp hcb=>
   have tc:=y9U A hm ha hp
   rw[hcb]
   refine⟨.tup [.str "beaten",.lst ((y2c T m a).map (bpD T m))], "beaten",.non,z4p rfl ?_,rfl,k_bo,(fun z=>nomatch z),fun _=>rfl⟩
   simp! only[z1b,k_ap,k_aa,tc,z0c]
 ·show ∃(P:D) (x:Str) (e:D),z0o [z0q T,.str "rest",.int (a:Int)]=some (.val P)∧ixD P (.int 0)=some (.str x)∧eqD (.str x) (.str "order")=some (.bl (((rgL T m).headD []).contains a))∧(((rgL T m).headD []).contains a=true->ixD P (.int 1)=some e∧∃o:List Nat,e=thD o∧o.Perm (ah m)∧y2J T o.reverse=a)∧(((rgL T m).headD []).contains a=false->e = .non)
  rw[hd0]
  by_cases h:a∈r0
  ·have hc:r0.contains a=true:=aw.mpr h
   obtain⟨q,e,w,p⟩:=rest_in F ⋯ hr h
   rw[hc]
   refine⟨.tup [.str "order",thD (a::q)], "order",thD (a::q),z4p rfl ?_,rfl,k_oo,fun _=>⟨rfl,a::q,rfl,p,?_⟩,(fun z=>nomatch z)⟩
   ·simp! only[z1b,k_rp,k_ra,k_rr,e,z0c]
   ·cases hz:(a::q).reverse with
    |nil=>simp at hz
    |cons x0 o=>exact y1Z w hz
  ·have hc:r0.contains a=false:=by rw[←br,aw];exact h
   have e:=x1l F ⋯ hr h
   rw[hc]
   refine⟨.tup [.str "shut",thD r0], "shut",.non,z4p rfl ?_,rfl,k_so,(fun z=>nomatch z),fun _=>rfl⟩
   simp! only[z1b,k_rp,k_ra,k_rr,e,z0c]
section
variable{g h:SS->Option Out}{s:SS}{o:Out}
theorem alt_l(e:g s=some o):altO g h s=some o:=by unfold altO;rw[e]
theorem alt_r(e:g s=none):altO g h s=h s:=by unfold altO;rw[e]
end
section
variable{m:Nat}{T:LB}
theorem z7N(F:Full m T)(h0:0<m)(hm:m≤8){k:Nat}(hk:k<3):∃E:Nat->D,z1m [z0q T,.str (kS k)]=some (.val (.lst ((ah m).map E)))∧∀a<m,isN (E a) = !z8z T m k a∧(z8z T m k a=true->∃o:List Nat,E a=thD o∧o.Perm (ah m)∧x2H T k o=a):=by
 have each:∀a:Nat,∃z:D×Str×D,a<m->(z0o [z0q T,.str (kS k),.int (a:Int)]=some (.val z.1)∧ixD z.1 (.int 0)=some (.str z.2.1)∧eqD (.str z.2.1) (.str "order")=some (.bl (z8z T m k a))∧(z8z T m k a=true->ixD z.1 (.int 1)=some z.2.2∧∃o:List Nat,z.2.2=thD o∧o.Perm (ah m)∧x2H T k o=a)∧(z8z T m k a=false->z.2.2 = .non)):=fun a=>by
  by_cases ha:a<m
  ·obtain⟨P,x,e,h1,h2,h3,h4,h5⟩:=x0X F h0 hm hk ha
   exact⟨(P,x,e),fun _=>⟨h1,h2,h3,h4,h5⟩⟩
  ·exact⟨(.non, "",.non),fun z=>absurd z ha⟩
 obtain⟨f,hf⟩:=Classical.skolem.mp each
 refine⟨fun a=>(f a).2.2,z4p rfl ?_,fun a ha=>?_⟩
 ·have c1:z1C (some ((ah m).map nD)) (z1N z5z (z2l z0o [(z0b 0),(z0b 1),(z0b 3)]) [some (z0q T),some (.str (kS k)),none])=some ((ah m).map fun a=>(f a).1):=z7w (enc:=nD) (fun a=>(f a).1) (by simp;omega) fun a ha=>by
   have h1:=(hf a (ak.mp ha)).1
   simp! only[nD,h1]
  have c2:z1C (some ((ah m).map fun a=>(f a).1)) (z1N z5z (dIf (z0D (d2 eqD (d2 ixD (z0b 3) (dC (.int 0))) (dC (.str "order")))) (d2 ixD (z0b 3) (dC (.int 1))) (dC .non)) [some (z0q T),some (.str (kS k)),some (.lst ((ah m).map fun a=>(f a).1))])=some ((ah m).map fun a=>(f a).2.2):=z7w (enc:=fun a=>(f a).1) (fun a=>(f a).2.2) (by simp;omega) fun a ha=>by
   obtain⟨_,h2,h3,h4,h5⟩:=hf a (ak.mp ha)
   obtain⟨L,hL⟩:∃L,L=D.lst ((ah m).map fun a=>(f a).1):=⟨_,rfl⟩
   rw[←hL]
   cases hh:z8z T m k a with
   |true=>
    rw[hh]at h3
    simp! only[h2,h3,(h4 hh).1]
   |false=>
    rw[hh]at h3
    simp! only[h2,h3,h5 hh]
  have a1:=alt_l (h:=exc1 (z1j (z0k z1M [(z0b 0)])) (z1y z0o [(z0b 0),(z0b 1),(z0b 3)])) (s:=[some (.sh (z0q T)),some (.sh (.str (kS k))),none]) (g:=z5j 2 (mkL (z1c (z1j (z0k z1M [(z0b 0)])) z5z (z2l z0o [(z0b 0),(z0b 1),(z0b 3)])))) (o:=.nx [some (.sh (z0q T)),some (.sh (.str (kS k))),some (.sh (.lst ((ah m).map fun a=>(f a).1)))]) (by
   simp! only[show shO none=none from rfl,z2r,F.sq.1,z0K (show m≤1000000 by omega),z1W,c1])
  obtain⟨P,hP⟩:∃P,P=(ah m).map fun a=>(f a).1:=⟨_,rfl⟩
  rw[←hP]at a1 c2
  simp! only[z3z,a1,c2,z0c]
 ·obtain⟨_,_,_,h4,h5⟩:=hf a ha
  cases hh:z8z T m k a with
  |true=>
   obtain⟨o,e,p,q⟩:=(h4 hh).2
   exact⟨by show isN (f a).2.2=false;rw[e];rfl,fun _=>⟨o,e,p,q⟩⟩
  |false=>exact⟨by show isN (f a).2.2=true;rw[h5 hh];rfl,fun z=>nomatch z⟩
end
def z7p(B:List Nat):List (List Nat):=B.foldl (fun f x=>f++f.map (· ++ [x])) [[]]
theorem z9f{B:List Nat}{x:Nat}:z7p (B++[x])=z7p B++(z7p B).map (· ++ [x]):=by unfold z7p;rw[List.foldl_append];rfl
theorem y9G{B:List Nat}:∀{n:Nat},(z7p (B.take n)).length=2 ^ (min n B.length)∧∀s∈z7p (B.take n),(∀x∈s,x∈B.take n)∧s.length≤min n B.length
 |0=>by
  refine⟨by simp[z7p],fun s hs=>?_⟩
  have:s=[]:=by simpa[z7p] using hs
  subst this
  exact⟨fun x hx=>(by cases hx),by simp⟩
 |n+1=>by
  obtain⟨h1,h2⟩:=y9G (B:=B) (n:=n)
  by_cases hn:n<B.length
  ·have e:B.take (n+1)=B.take n++[B[n]]:=by rw[dG,am hn];rfl
   have e1:min n B.length=n:=by omega
   have e2:min (n+1) B.length=n+1:=by omega
   rw[e1]at h1 h2
   rw[e,e2,z9f]
   refine⟨by rw[aB,ao,h1,Nat.pow_succ];omega,fun s hs=>?_⟩
   rcases au.mp hs with z | z
   ·obtain⟨q1,q2⟩:=h2 s z
    exact⟨fun x hx=>aQ _ (q1 x hx),by omega⟩
   ·obtain⟨t,ht,rfl⟩:=bf.mp z
    obtain⟨q1,q2⟩:=h2 t ht
    refine⟨fun x hx=>?_,by simp;omega⟩
    rcases au.mp hx with w | w
    ·exact aQ _ (q1 x w)
    ·exact aC _ w
  ·have e:B.take (n+1)=B.take n:=by rw[aS ⋯,aS ⋯]
   have e1:min (n+1) B.length=min n B.length:=by omega
   rw[e,e1]
   exact⟨h1,h2⟩
theorem x0i{B pre post:List Nat}(e:B=pre++post)(hB:B.length≤8):(z7p pre).length≤256∧∀s∈z7p pre,(∀x∈s,x∈B)∧s.length≤8:=by
 have h:=y9G (B:=B) (n:=pre.length)
 have e1:B.take pre.length=pre:=by rw[e];simp
 rw[e1]at h
 refine⟨?_,fun s hs=>?_⟩
 ·rw[h.1]
  exact Nat.pow_le_pow_right (n:=2) ⋯ (show _≤8 by omega)
 ·obtain⟨q1,q2⟩:=h.2 s hs
  exact⟨fun x hx=>by rw[e];exact aQ _ (q1 x hx),by omega⟩
theorem y5z{B:List Nat}(hB:B.length≤8):z2h [thD B]=some (.lst ((z7p B).map thD)):=by
 refine z0z rfl ?_
 have n0:D.lst [D.lst []] = .lst ((z7p []).map thD):=rfl
 simp! only[z3h,z3E,n0,z1D]
 refine z0G (I:=fun s=>∃o2,s=[some (.sh (thD B)),some (.sh (.lst ((z7p B).map thD))),o2]) ?_ ?_
 ·refine z1q (enc:=nD) (fun pre s=>∃o2,s=[some (.sh (thD B)),some (.sh (.lst ((z7p pre).map thD))),o2]) ⟨_,rfl⟩ ?_ fun s z=>⟨s,rfl,z⟩
  rintro pre x post e s ⟨o2,rfl⟩
  obtain⟨l1,l2⟩:=x0i e hB
  rw[z9f]
  obtain⟨L,hL⟩:∃L,L=z7p pre:=⟨_,rfl⟩
  rw[←hL]at l1 l2 ⊢
  have sq:y4R (.lst (L.map thD))=some (L.map thD):=rfl
  have cx:z1C (some (L.map thD)) (z1N z5z (z0u (y3P (z0b 3) (mkL (z0j [z0b 2])))) [some (thD B),some (.lst (L.map thD)),some (.int (x:Int))])=some (L.map fun c=>thD (c++[x])):=z7w (fun c=>thD (c++[x])) ⋯ fun c hc=>by
   have t1:D.lst [.int (x:Int)]=thD [x]:=rfl
   have hcl:=(l2 c hc).2
   have ct:=z7x (a:=c) (b:=[x]) (by simp;omega)
   obtain⟨w,hw⟩:∃w,w=c++[x]:=⟨_,rfl⟩
   rw[←hw]at ct ⊢
   have tl:∀W:List Nat,D.lst (W.map nD)=thD W:=fun _=>rfl
   simp! only[t1,ct,z1U,tl]
  have em:(L.map fun c=>thD (c++[x]))=(L.map (· ++ [x])).map thD:=by rw[bp];rfl
  rw[em]at cx
  have l3:(L.map (· ++ [x])).length=L.length:=ao _
  obtain⟨R,hR⟩:∃R,R=L.map (· ++ [x]):=⟨_,rfl⟩
  rw[←hR]at cx l3 ⊢
  have ct:catO (some (.lst (L.map thD))) (some (.lst (R.map thD)))=some ((L++R).map thD):=by
   rw[y7o (by simp;omega),aR]
  simp! only[nD,sq,cx,ct,z0c]
  exact⟨_,rfl⟩
 ·rintro s ⟨o2,rfl⟩
  simp! only[z0c]
def x2D(T:LB)(S:List Nat):Bool:=S.all fun a=>S.all fun b=>!(at2 T a b&&decide (((S.filter fun c=>at2 T b c&&at2 T c a).length:Int)>0))
theorem y5t{m:Nat}{T:LB}(sq:Sq m T){S:List Nat}(hl:S.length≤1000)(lt:∀x∈S,x<m):z1p [z0q T,thD S]=some (.bl (!x2D T S)):=by
 refine z0z rfl ?_
 simp! only[z1S,z1D]
 refine y0W (c:=x2D T S) (d:=.bl true) (I:=fun s=>∃o2 o3 o4,s=[some (.sh (z0q T)),some (.sh (thD S)),o2,o3,o4]) (z7b _ (fun a=>S.all fun b=>!(at2 T a b&&decide (((S.filter fun c=>at2 T b c&&at2 T c a).length:Int)>0))) _ ⟨_,_,_,rfl⟩ ?_) ?_ ?_
 ·rintro a ha s ⟨o2,o3,o4,rfl⟩
  have ha':=lt a ha
  simp! only[z1D,nD]
  have:=z7b (enc:=nD) (i:=3) (b:=z0E (z6S 4 (z0u (z1c (z4K (z0b 1)) (z3T (z0v (d2 ixD (d2 ixD (z0b 0) (z0b 3)) (z0b 5))) (z0v (d2 ixD (d2 ixD (z0b 0) (z0b 5)) (z0b 2)))) (z0b 5))))
   (ifO (z3T (z0v (d2 ixD (d2 ixD (z0b 0) (z0b 2)) (z0b 3))) (z0D (d2 gtI (z0k z1M [z0b 4]) (dC (.int 0))))) (z2N (dC (.bl true))) z0P)) (fun s=>∃o3 o4,s=[some (.sh (z0q T)),some (.sh (thD S)),some (.sh (.int (a:Int))),o3,o4]) (fun b=>!(at2 T a b&&decide (((S.filter fun c=>at2 T b c&&at2 T c a).length:Int)>0))) (.bl true) (xs:=S) (s:=[some (.sh (z0q T)),some (.sh (thD S)),some (.sh (.int (a:Int))),o3,o4]) ⟨_,_,rfl⟩ ?_
  ·obtain⟨o,e,q⟩:=this
   refine⟨o,e,?_⟩
   split at q
   ·rename_i h
    rw[if_pos h]
    obtain⟨s',e',o3',o4',rfl⟩:=q
    exact⟨_,e',_,_,_,rfl⟩
   ·rename_i h
    rw[if_neg h]
    exact q
  ·rintro b hb s ⟨o3,o4,rfl⟩
   have hb':=lt b hb
   have cx:∀d4:Option D,z1C (some (S.map nD)) (z1N (z3T (z0v (d2 ixD (d2 ixD (z0b 0) (z0b 3)) (z0b 5))) (z0v (d2 ixD (d2 ixD (z0b 0) (z0b 5)) (z0b 2)))) (z0b 5) [some (z0q T),some (thD S),some (.int (a:Int)),some (.int (b:Int)),d4])=some ((S.filter fun c=>at2 T b c&&at2 T c a).map nD):=fun d4=>
    z5H (fun c=>at2 T b c&&at2 T c a) nD hl (fun c hc=>by
     have hc':=lt c hc
     simp! only[nD,ix2 sq hb' hc',ix2 sq hc' ha']) fun c _ _=>by simp! only[]
   have tl:∀W:List Nat,D.lst (W.map nD)=thD W:=fun _=>rfl
   simp! only[nD,z1D,cx,z1U,tl,ix2 sq ha' hb',z2I]
   cases at2 T a b with
   |false=>
    simp_all! only[z0c,cJ,el,if_true]
    exact⟨_,rfl,_,_,rfl⟩
   |true=>
    cases decide (((S.filter fun c=>at2 T b c&&at2 T c a).length:Int)>0)with
    |false=>
     simp_all! only[z0c,eu,el,if_true]
     exact⟨_,rfl,_,_,rfl⟩
    |true=>
     simp_all! only[z0c,Bool.and_self,eL,bF,if_false]
 ·rintro h s ⟨o2,o3,o4,rfl⟩
  rw[h]
  simp! only[z0c]
  rfl
 ·intro h
  rw[h]
  rfl
theorem rnd_no{T:LB}{S:List Nat}(h:x2D T S=true){a b c:Nat}(ha:a∈S)(hb:b∈S)(hc:c∈S)(h1:at2 T a b=true)(h2:at2 T b c=true)(h3:at2 T c a=true):False:=by
 have:=az.mp (az.mp h a ha) b hb
 rw[h1,cS]at this
 have hm:c∈S.filter fun c=>at2 T b c&&at2 T c a:=af.mpr ⟨hc,by rw[h2,h3];rfl⟩
 have:decide (((S.filter fun c=>at2 T b c&&at2 T c a).length:Int)>0)=false:=by simpa using this
 have:=of_decide_eq_false this
 have hp:=b9.mpr (dA hm)
 omega
theorem z6W{m:Nat}{T:LB}(F:Full m T):∀{S:List Nat},(∀x∈S,x<m)->(∀a∈S,∀b∈S,∀c∈S,at2 T a b=true->at2 T b c=true->at2 T c a=true->False)->∃r,chB T r=true∧∀x,x∈r↔x∈S
 |[],_,_=>⟨[],rfl,fun x=>Iff.rfl⟩
 |x::S,lt,hn=>by
  obtain⟨r,hr,hm⟩:=z6W F (S:=S) (fun y hy=>lt y (ae _ hy)) fun a ha b hb c hc=>hn a (ae _ ha) b (ae _ hb) c (ae _ hc)
  have A:=F.ant
  have hx:=lt x ac
  have rm:∀y∈r,y∈x::S:=fun y hy=>ae _ ((hm y).mp hy)
  refine⟨insC T x r,?_,fun y=>?_⟩
  ·rw[chB_iff]
   have pw:=chB_iff.mp hr
   unfold insC
   rw[cF,cF]
   refine⟨⟨pw.sublist dh,by simp,fun a ha b hb=>?_⟩,pw.sublist dh,fun a ha b hb=>?_⟩
   ·rw[ag.mp hb]
    have:=(af.mp ha).2
    simpa using this
   ·obtain⟨hb1,hb2⟩:=af.mp hb
    have hb2:at2 T x b=true:=by simpa using hb2
    rcases au.mp ha with ha | ha
    ·obtain⟨ha1,ha2⟩:=af.mp ha
     have ha2:at2 T a x=true:=by simpa using ha2
     have hax:=rm a ha1
     have hbx:=rm b hb1
     have hne:a≠b:=fun z=>by
      subst z
      rw[A.ant a (lt a hax) x hx ha2]at hb2
      cases hb2
     have tw:=F.two a (lt a hax) b (lt b hbx) hne
     cases hab:at2 T a b with
     |true=>rfl
     |false=>
      rw[hab]at tw
      have hba:at2 T b a=true:=by
       cases hq:at2 T b a with
       |true=>rfl
       |false=>rw[hq]at tw;cases tw
      exact absurd hba fun q=>hn a hax x ac b hbx ha2 hb2 q
    ·rw[ag.mp ha]
     exact hb2
  ·unfold insC
   rw[au,au,ag,af,af,ai]
   constructor
   ·rintro ((h | h) | h)
    ·exact .inr ((hm y).mp h.1)
    ·exact .inl h
    ·exact .inr ((hm y).mp h.1)
   ·rintro (h | h)
    ·exact .inl (.inr h)
    ·by_cases hyx:y=x
     ·exact .inl (.inr hyx)
     ·have hy:=lt y (ae _ h)
      have tw:=F.two y hy x hx hyx
      have hr:=(hm y).mpr h
      cases hq:at2 T y x with
      |true=>exact .inl (.inl ⟨hr,by simpa using hq⟩)
      |false=>
       rw[hq]at tw
       refine .inr ⟨hr,?_⟩
       cases hw:at2 T x y with
       |true=>rfl
       |false=>rw[hw]at tw;cases tw
def bt0:List (Nat×Nat):=[(0,1),(0,2),(0,3),(1,2),(2,3),(4,0),(5,0),(6,0),(4,1),(4,2),(5,2),(5,3)]
def bt1:List (Nat×Nat):=bt0++[(6,3),(6,1),(3,4),(1,5),(2,6)]
def pk{α:Type}(p:Nat)(x y:α):α:=if p=0 then x else y
def bt2(p q r t:Nat):List (Nat×Nat):=bt1++[pk p (4,5) (5,4)]++[pk q (4,6) (6,4)]++[pk r (5,6) (6,5)]++[pk t (3,1) (1,3)]
def okL(L:List (Nat×Nat)):Bool:=(L.all fun z=>decide (z.1<7)&&decide (z.2<7))&&(ah 7).all fun x=>!L.contains (x,x)&&(ah 7).all fun y=>decide (x=y)||(L.contains (x,y) == !L.contains (y,x))
theorem bt_all:((ah 2).all fun p=>(ah 2).all fun q=>(ah 2).all fun r=>(ah 2).all fun t=>okL (bt2 p q r t))=true:=by decide +kernel
theorem bt_ok{p q r t:Nat}(hp:p<2)(hq:q<2)(hr:r<2)(ht:t<2):okL (bt2 p q r t)=true:=
 az.mp (az.mp (az.mp (az.mp bt_all p (ak.mpr hp)) q (ak.mpr hq)) r (ak.mpr hr)) t (ak.mpr ht)
theorem x1y{p:Nat}{x y:D}(hp:p<2):atI [x,y] (p:Int)=some (pk p x y):=by
 have:p=0∨p=1:=by omega
 rcases this with rfl | rfl
 ·exact y1I (k:=0) (by simp)
 ·exact y1I (k:=1) (by simp)
theorem x2j{p:Nat}{x y:Nat×Nat}:pk p (prD x) (prD y)=prD (pk p x y):=by
 unfold pk
 split <;> rfl
theorem y7u{i j:Nat}{b:SS->Option Out}{QO:Out->Prop}{xs:List (Nat×Nat)}(I:List (Nat×Nat)->SS->Prop)(hs:∀pre x post,xs=pre++x::post->∀δ,I pre δ->hol (b ((δ.set i (some (.sh (.int (x.1:Int))))).set j (some (.sh (.int (x.2:Int)))))) fun o=>match o with | .nx δ'=>I (pre++[x]) δ' | .ct δ'=>I (pre++[x]) δ' | .bk δ'=>QO (.nx δ') | .rt d=>QO (.rt d) | .rb d δ'=>QO (.rb d δ') | .ex c δ'=>QO (.ex c δ'))(he:∀δ,I xs δ->QO (.nx δ)):
  ∀{post pre:List (Nat×Nat)} {s:SS},xs=pre++post->I pre s->hol (z5m i j b (post.map prD) s) QO
 |[],pre,s,e,h=>⟨_,rfl,he s (by rw[e,aF];exact h)⟩
 |x::post,pre,s,e,h=>by
  obtain⟨o,eo,q⟩:=hs pre x post e s h
  rw[aH]
  unfold z5m
  show hol ((twoD (prD x)).bind _) QO
  have tw:twoD (prD x)=some (.int (x.1:Int),.int (x.2:Int)):=rfl
  rw[tw,aj,eo,aj]
  cases o with
  |nx δ'=>exact y7u I hs he (by rw[e];simp) q
  |ct δ'=>exact y7u I hs he (by rw[e];simp) q
  |bk δ'=>exact⟨_,rfl,q⟩
  |rt d=>exact⟨_,rfl,q⟩
  |rb d δ'=>exact⟨_,rfl,q⟩
  |ex c δ'=>exact⟨_,rfl,q⟩
theorem imm_pr(z:Nat×Nat):y1r (some [prD z])=some [prD z]:=z4J rfl
theorem y7E:∀(L:List (Nat×Nat)),z4j (some (L.map prD))=some (L.map prD):=fun L=>z4u (by
 induction L with
 |nil=>rfl
 |cons a L ih=>
  show(true&&z2d (L.map prD))=true
  rw[ih]
  rfl)
theorem y8i{n:Nat}(hn:n=7∨n=8){P:List Nat}(hP:P.Perm (ah n))(c:Int):hol (z2Q [thD P,.int c]) fun d=>∃T:LB,d=z0q T∧Full n T:=by
 refine z5o rfl ?_
 have hlen:=z1h hP
 have hlt:=z3y hP
 have hnd:=y7A hP
 obtain⟨p,ep,hp⟩:=z3I (x:=c) (n:=2) ⋯
 obtain⟨q,eq',hq⟩:=z3I (x:=c / 2) (n:=2) ⋯
 obtain⟨r,er,hr⟩:=z3I (x:=c / 4) (n:=2) ⋯
 have mp:z3U (.int c) (.int 2)=some (.int (p:Int)):=by rw[z2n ⋯];exact congrArg _ (congrArg _ ep)
 have mq:z3U (.int (c / 2)) (.int 2)=some (.int (q:Int)):=by rw[z2n ⋯];exact congrArg _ (congrArg _ eq')
 have mr:z3U (.int (c / 4)) (.int 2)=some (.int (r:Int)):=by rw[z2n ⋯];exact congrArg _ (congrArg _ er)
 have mt:z3U (.int (c / 8)) (.int 3)=some (.int (c / 8 % 3)):=z2n ⋯
 have v2:z8h (.int c) (.int 2)=some (.int (c / 2)):=z4X ⟨by omega,by omega⟩
 have v4:z8h (.int c) (.int 4)=some (.int (c / 4)):=z4X ⟨by omega,by omega⟩
 have v8:z8h (.int c) (.int 8)=some (.int (c / 8)):=z4X ⟨by omega,by omega⟩
 obtain⟨t,et,ht⟩:∃t:Nat,(if decide (c / 8 % 3=1)=true then(1:Int)else 0)=(t:Int)∧t<2:=by
  by_cases h:c / 8 % 3=1
  ·exact⟨1,by rw[decide_eq_true h];rfl,by omega⟩
  ·exact⟨0,by rw[decide_eq_false h];rfl,by omega⟩
 have f0:z4j (some [D.tup [.int 0,.int 1],D.tup [.int 0,.int 2],D.tup [.int 0,.int 3],D.tup [.int 1,.int 2],D.tup [.int 2,.int 3],D.tup [.int 4,.int 0],D.tup [.int 5,.int 0],D.tup [.int 6,.int 0],D.tup [.int 4,.int 1],D.tup [.int 4,.int 2],D.tup [.int 5,.int 2],D.tup [.int 5,.int 3]])=some (bt0.map prD):=y7E bt0
 have c0:catO (some (.lst (bt0.map prD))) (some (.lst [D.tup [.int 6,.int 3],D.tup [.int 6,.int 1],D.tup [.int 3,.int 4],D.tup [.int 1,.int 5],D.tup [.int 2,.int 6]]))=some (bt1.map prD):=by
  have:=y7o (ds:=bt0.map prD) (es:=[(6,3),(6,1),(3,4),(1,5),(2,6)].map prD) (by simp[bt0])
  rw[←aR]at this
  exact this
 have f1:=y7E bt1
 have a1:atI [D.tup [.int 4,.int 5],D.tup [.int 5,.int 4]] (p:Int)=some (prD (pk p (4,5) (5,4))):=by rw[←x2j];exact x1y hp
 have a2:atI [D.tup [.int 4,.int 6],D.tup [.int 6,.int 4]] (q:Int)=some (prD (pk q (4,6) (6,4))):=by rw[←x2j];exact x1y hq
 have a3:atI [D.tup [.int 5,.int 6],D.tup [.int 6,.int 5]] (r:Int)=some (prD (pk r (5,6) (6,5))):=by rw[←x2j];exact x1y hr
 have a4:atI [D.tup [.int 3,.int 1],D.tup [.int 1,.int 3]] (t:Int)=some (prD (pk t (3,1) (1,3))):=by rw[←x2j];exact x1y ht
 have hok:=bt_ok hp hq hr ht
 obtain⟨z1,hz1⟩:∃z,z=pk p (4,5) (5,4):=⟨_,rfl⟩
 obtain⟨z2,hz2⟩:∃z,z=pk q (4,6) (6,4):=⟨_,rfl⟩
 obtain⟨z3,hz3⟩:∃z,z=pk r (5,6) (6,5):=⟨_,rfl⟩
 obtain⟨z4,hz4⟩:∃z,z=pk t (3,1) (1,3):=⟨_,rfl⟩
 unfold bt2 at hok
 rw[←hz1]at a1 hok
 rw[←hz2]at a2 hok
 rw[←hz3]at a3 hok
 rw[←hz4]at a4 hok
 have b1:m0V y2q (some (.lst (bt1.map prD))) (some [prD z1])=some (.lst ((bt1++[z1]).map prD)):=y1M (by simp[bt1,bt0])
 obtain⟨L1,hL1⟩:∃L,L=bt1++[z1]:=⟨_,rfl⟩
 rw[←hL1]at b1 hok
 have l1:L1.length=18:=by rw[hL1];rfl
 have b2:m0V y2q (some (.lst (L1.map prD))) (some [prD z2])=some (.lst ((L1++[z2]).map prD)):=y1M ⋯
 obtain⟨L2',hL2⟩:∃L,L=L1++[z2]:=⟨_,rfl⟩
 rw[←hL2]at b2 hok
 have l2:L2'.length=19:=by rw[hL2,aB,l1];rfl
 have b3:m0V y2q (some (.lst (L2'.map prD))) (some [prD z3])=some (.lst ((L2'++[z3]).map prD)):=y1M ⋯
 obtain⟨L3,hL3⟩:∃L,L=L2'++[z3]:=⟨_,rfl⟩
 rw[←hL3]at b3 hok
 have l3:L3.length=20:=by rw[hL3,aB,l2];rfl
 have b4:m0V y2q (some (.lst (L3.map prD))) (some [prD z4])=some (.lst ((L3++[z4]).map prD)):=y1M ⋯
 obtain⟨L,hL⟩:∃L,L=L3++[z4]:=⟨_,rfl⟩
 rw[←hL]at b4 hok
 obtain⟨ok1,ok2⟩:=aq.mp hok
 have hL7:∀z∈L,z.1<7∧z.2<7:=fun z hz=>by
  have:=az.mp ok1 z hz
  simpa using this
 have rp:repO (some (.lst [.bl false])) (some (.int (n:Int)))=some (ad n (.bl false)):=y2t (show n≤1000000 by omega)
 have eb:(ad n (D.bl false))=(ad n false).map bD:=by rw[dB];rfl
 have cp:∀d2 d3 d4 d5 d6:Option D,z1C (some (z5y 0 n)) (z1N z5z (z0u (x1s (mkL (z0j [dC (.bl false)])) (z0k z1M [z0b 0]))) [some (thD P),some (.int c),d2,d3,d4,d5,d6])=some ((ad n (ad n false)).map z3n):=fun d2 d3 d4 d5 d6=>by
  rw[z1W,z7w (fun _=>z3n (ad n false)) (by simp;omega) fun x hx=>?_]
  ·congr 1
   apply List.ext_getElem <;> simp
  ·simp! only[z2I,hlen,rp,eb,z4u (z2a _)]
   rfl
 have tt:D.lst ((ad n (ad n false)).map z3n)=z0q (ad n (ad n false)):=rfl
 have sl:y4R (.lst (L.map prD))=some (L.map prD):=rfl
 simp! only[z4h,ev_litT,f0,c0,f1,mp,a1,imm_pr,b1,v2,mq,a2,b2,v4,mr,a3,b3,v8,mt,et,a4,b4,z2I,hlen,z0K (show n≤1000000 by omega),cp,tt,sl]
 obtain⟨pl,hpl⟩:∃pl:Nat->Nat,∀k<n,pl k<n∧P[k]? = some (pl k):=⟨fun k=>P.getD k 0,fun k hk=>by
  have hk':k<P.length:=by omega
  have e:P[k]? = some P[k]:=am hk'
  refine⟨?_,?_⟩
  ·show P.getD k 0<n
   rw[bE,e]
   exact hlt _ (bM hk')
  ·show _=some (P.getD k 0)
   rw[bE,e]
   rfl⟩
 have ixP:∀k:Nat,k<n->ixD (thD P) (.int (k:Int))=some (.int ((pl k:Nat):Int)):=fun k hk=>y4E (by rw[aG,(hpl k hk).2];rfl)
 have inj:∀i<n,∀j<n,pl i=pl j->i=j:=fun i hi j hj h=>by
  have h1:=(hpl i hi).2
  have h2:=(hpl j hj).2
  rw[←h]at h2
  obtain⟨h1l,h1e⟩:=aL.mp h1
  obtain⟨h2l,h2e⟩:=aL.mp h2
  have ne:∀(x y:Nat) (hx:x<P.length) (hy:y<P.length),x<y->P[x]≠P[y]:=fun x y hx hy hxy=>List.pairwise_iff_getElem.mp hnd x y hx hy hxy
  rcases Nat.lt_trichotomy i j with w | w | w
  ·exact absurd (h1e.trans h2e.symm) (ne i j h1l h2l w)
  ·exact w
  ·exact absurd (h2e.trans h1e.symm) (ne j i h2l h1l w)
 have sur:∀x<n,∃i<n,pl i=x:=fun x hx=>by
  have:x∈P:=hP.mem_iff.mpr (ak.mpr hx)
  obtain⟨i,hi,e⟩:=e9.mp this
  refine⟨i,by omega,?_⟩
  have:=(hpl i ⋯).2
  rw[am hi,e]at this
  exact(Option.some.inj this).symm
 have keyL:∀{T:LB},(∀a b,at2 T a b=true↔∃z∈L,a=pl z.1∧b=pl z.2)->∀x<n,∀y<n,at2 T (pl x) (pl y)=L.contains (x,y):=fun {T} hT x hx y hy=>by
  rw[bI,hT,aw]
  constructor
  ·rintro⟨z,hz,e1,e2⟩
   have h7:=hL7 z hz
   have k1:=inj x hx z.1 ⋯ e1
   have k2:=inj y hy z.2 ⋯ e2
   have:(x,y)=z:=by rw[k1,k2]
   rw[this]
   exact hz
  ·exact fun h=>⟨_,h,rfl,rfl⟩
 have okx:∀x<7,L.contains (x,x)=false:=fun x hx=>by
  have:=(aq.mp (az.mp ok2 x (ak.mpr hx))).1
  simpa using this
 have oky:∀x<7,∀y<7,x≠y->L.contains (x,y) = !L.contains (y,x):=fun x hx y hy hne=>by
  have:=az.mp (aq.mp (az.mp ok2 x (ak.mpr hx))).2 y (ak.mpr hy)
  rcases dl.mp this with h | h
  ·exact absurd (of_decide_eq_true h) hne
  ·exact eq_of_beq h
 refine z0G (I:=fun z=>∃(T:LB) (o2 o4 o5:Option SD),z=[some (.sh (thD P)),some (.sh (.int c)),o2,some (.ow (z0q T)),o4,o5,none]∧Sq n T∧∀a b,at2 T a b=true↔∃z∈L,a=pl z.1∧b=pl z.2) ?_ ?_
 ·refine y7u (xs:=L) (fun pre z=>∃(T:LB) (o4 o5:Option SD),z=[some (.sh (thD P)),some (.sh (.int c)),some (.sh (.lst (L.map prD))),some (.ow (z0q T)),o4,o5,none]∧Sq n T∧∀a b,at2 T a b=true↔∃z∈pre,a=pl z.1∧b=pl z.2) ?_ ?_ (post:=L) (pre:=[]) rfl ⟨ad n (ad n false),_,_,rfl,⟨by simp,fun r hr=>by rw[eG hr];simp⟩,fun a b=>⟨fun h=>(by rw[y0O]at h;cases h),fun⟨_,h,_⟩=>(by cases h)⟩⟩
  ·rintro pre x post e z ⟨T,o4,o5,rfl,sq,hT⟩
   have hx:=hL7 x (by rw[e];simp)
   have h1:pl x.1<T.length:=by rw[sq.1];exact(hpl _ ⋯).1
   have h2:pl x.2<T[pl x.1].length:=by rw[sq.row h1];exact(hpl _ ⋯).1
   have st1:=z5F (v:=true) h1 h2
   simp! only[ixP x.1 ⋯,ixP x.2 ⋯,st1,z0c]
   refine⟨_,_,_,rfl,sq.set h1,fun a b=>?_⟩
   rw[z7B h1 h2]
   constructor
   ·intro h
    split at h
    ·rename_i w
     exact⟨x,by simp,w.1,w.2⟩
    ·obtain⟨z,hz,w⟩:=(hT a b).mp h
     exact⟨z,aQ _ hz,w⟩
   ·rintro⟨z,hz,w⟩
    rcases au.mp hz with hz | hz
    ·split
     ·rfl
     ·exact(hT a b).mpr ⟨z,hz,w⟩
    ·rw[ag.mp hz]at w
     rw[if_pos w]
  ·rintro z ⟨T,o4,o5,rfl,sq,hT⟩
   exact⟨_,rfl,T,_,_,_,rfl,sq,hT⟩
 ·rintro z ⟨T,o2,o4,o5,rfl,sq,hT⟩
  have cu:y3b (some (thD P)) (some (some 7)) (some none)=some ((P.drop 7).map nD):=y1N (k:=7)
  have tl:∀W:List Nat,D.lst (W.map nD)=thD W:=fun _=>rfl
  rcases hn with rfl | rfl
  ·have e7:P.drop 7=[]:=bi ⋯
   rw[e7]at cu
   have sn:y4R (D.lst (([]:List Nat).map nD))=some (([]:List Nat).map nD):=rfl
   have fn:∀(b:SS->Option Out) (s:SS),z8i 6 b (([]:List Nat).map nD) s=some (.nx s):=fun _ _=>rfl
   obtain⟨w,hw⟩:∃w:List Nat,w=[]:=⟨_,rfl⟩
   rw[←hw]at cu sn fn
   simp! only[cu,sn,fn,z0c]
   refine⟨_,rfl,T,rfl,sq,fun i hi=>?_,fun i hi j hj hij=>?_⟩
   ·obtain⟨x,hx,rfl⟩:=sur i hi
    rw[keyL hT x hx x hx]
    exact okx x hx
   ·obtain⟨x,hx,rfl⟩:=sur i hi
    obtain⟨y,hy,rfl⟩:=sur j hj
    rw[keyL hT x hx y hy,keyL hT y hy x hx]
    exact oky x hx y hy fun z=>hij (by rw[z])
  ·have e8:P.drop 7=[pl 7]:=by
    have h7:=(hpl 7 ⋯).2
    obtain⟨h7l,h7e⟩:=aL.mp h7
    rw[bb h7l,h7e,bi ⋯]
   rw[e8]at cu
   have hl8:=(hpl 7 ⋯).1
   have ct:y3b (some (thD P)) (some none) (some (some 7))=some ((P.take 7).map nD):=by
    show some (z6G (P.map nD) none (some ((7:Nat):Int)))=_
    rw[z7u (by simp;omega),cE]
   have tk:∀x∈P.take 7,∃i<7,x=pl i:=fun x hx=>by
    obtain⟨i,hi,e⟩:=e9.mp hx
    rw[bZ]at hi
    rw[List.getElem_take]at e
    have:=(hpl i ⋯).2
    rw[am ⋯,e]at this
    exact⟨i,by omega,Option.some.inj this⟩
   have kt:∀i<7,pl i∈P.take 7:=fun i hi=>by
    have:=(hpl i ⋯).2
    have h2:(P.take 7)[i]? = some (pl i):=by rw[List.getElem?_take,if_pos hi,this]
    exact de h2
   obtain⟨l,hl⟩:∃l,l=pl 7:=⟨_,rfl⟩
   rw[←hl]at cu hl8
   obtain⟨w,hw⟩:∃w:List Nat,w=[l]:=⟨_,rfl⟩
   rw[←hw]at cu
   obtain⟨w7,hw7⟩:∃w,w=P.take 7:=⟨_,rfl⟩
   rw[←hw7]at ct tk kt
   simp! only[cu,tl,z1D]
   refine z0G (I:=fun z=>∃(T:LB) (o2 o4 o5 o6:Option SD),z=[some (.sh (thD P)),some (.sh (.int c)),o2,some (.ow (z0q T)),o4,o5,o6]∧Full 8 T) ?_ ?_
   ·refine z1q (enc:=nD) (fun pre z=>if pre=[] then z=[some (.sh (thD P)),some (.sh (.int c)),o2,some (.ow (z0q T)),o4,o5,none] else ∃(T:LB) (o2 o4 o5 o6:Option SD),z=[some (.sh (thD P)),some (.sh (.int c)),o2,some (.ow (z0q T)),o4,o5,o6]∧Full 8 T) (by rw[if_pos rfl]) ?_ ?_
    ·rintro pre x post e z hz
     rw[hw]at e
     have hpx:pre=[]∧x=l:=by
      cases pre with
      |nil=>exact⟨rfl,(List.cons.inj e).1.symm⟩
      |cons y p=>
       have:=congrArg List.length e
       simp at this
     obtain⟨rfl,rfl⟩:=hpx
     rw[if_pos rfl]at hz
     subst hz
     have hlT:x<(T.map z3n).length:=by rw[ao,sq.1];exact hl8
     have st:=x2c (d:=z3n (ad 8 false)) hlT
     rw[←dI]at st
     have st:st0NV (some (z0q T)) (some (.int (x:Int))) (some (z3n (ad 8 false)))=some (z0q (T.set x (ad 8 false))):=st
     rw[eb]at rp
     obtain⟨R8,hR8⟩:∃R,R=ad 8 false:=⟨_,rfl⟩
     rw[←hR8]at rp st
     have rw8:D.lst (R8.map bD)=z3n R8:=rfl
     have sq1:Sq 8 (T.set x (ad 8 false)):=⟨by rw[cY,sq.1],fun r hr=>by
      rcases cM hr with q | q
      ·exact sq.2 r q
      ·rw[q];rfl⟩
     have hT1:∀a b,at2 (T.set x (ad 8 false)) a b=true↔∃z∈L,a=pl z.1∧b=pl z.2:=fun a b=>by
      by_cases hax:a=x
      ·subst hax
       constructor
       ·intro h
        exfalso
        have hz:(T.set a (ad 8 false)).getD a []=ad 8 false:=by
         rw[bE,cj (by rw[sq.1];exact hl8)]
         rfl
        unfold at2 at h
        rw[hz]at h
        rw[bE,bq]at h
        split at h <;> cases h
       ·rintro⟨z,hz,e1,_⟩
        have h7:=hL7 z hz
        have:=inj 7 ⋯ z.1 ⋯ (by rw[←hl,e1])
        omega
      ·have:at2 (T.set x (ad 8 false)) a b=at2 T a b:=by
        unfold at2
        simp only[cf,aW (Ne.symm hax)]
       rw[this]
       exact hT a b
     rw[←hR8]at sq1 hT1
     obtain⟨T1,hT1e⟩:∃T1,T1=T.set x R8:=⟨_,rfl⟩
     rw[←hT1e]at st sq1 hT1
     simp! only[nD,z2I,hlen,rp,z4u (z2a _),rw8,st,ct,tl,z1D]
     have hne:¬([]++[x]=([]:List Nat)):=by simp
     refine z1q (enc:=nD) (fun pre z=>∃(T2:LB) (o2' o4 o5':Option SD),z=[some (.sh (thD P)),some (.sh (.int c)),o2',some (.ow (z0q T2)),o4,o5',some (.sh (.int (x:Int)))]∧Sq 8 T2∧∀a b,at2 T2 a b=true↔(∃z∈L,a=pl z.1∧b=pl z.2)∨(a∈pre∧b=x)) ⟨T1,_,_,_,rfl,sq1,fun a b=>by rw[hT1];simp⟩ ?_ ?_
     ·rintro pre y post e' z ⟨T2,o2',o4',o5',rfl,sq2,hT2⟩
      have hy7:y∈w7:=by rw[e'];simp
      obtain⟨i,hi,hyi⟩:=tk y hy7
      have hym:y<8:=by rw[hyi];exact(hpl i ⋯).1
      have h1:y<T2.length:=by rw[sq2.1];exact hym
      have h2:x<T2[y].length:=by rw[sq2.row h1];exact hl8
      have st1:=z5F (v:=true) h1 h2
      simp! only[nD,st1,z0c]
      refine⟨_,_,_,_,rfl,sq2.set h1,fun a b=>?_⟩
      rw[z7B h1 h2]
      constructor
      ·intro h
       split at h
       ·rename_i w
        exact .inr ⟨by rw[w.1];simp,w.2⟩
       ·rcases (hT2 a b).mp h with w | w
        ·exact .inl w
        ·exact .inr ⟨aQ _ w.1,w.2⟩
      ·intro h
       split
       ·rfl
       ·rename_i hnw
        rcases h with w | ⟨w1,w2⟩
        ·exact(hT2 a b).mpr (.inl w)
        ·rcases au.mp w1 with w | w
         ·exact(hT2 a b).mpr (.inr ⟨w,w2⟩)
         ·exact absurd ⟨ag.mp w,w2⟩ hnw
     ·rintro z ⟨T2,o2',o4',o5',rfl,sq2,hT2⟩
      refine(if_neg (show ¬([x]=([]:List Nat)) by simp)).mpr ?_
      have key:∀i<8,∀j<8,at2 T2 (pl i) (pl j)=(L.contains (i,j)||(decide (i<7)&&decide (j=7))):=fun i hi j hj=>by
       rw[bI,hT2,dl,aq,decide_eq_true_iff,decide_eq_true_iff,aw]
       constructor
       ·rintro (⟨z,hz,e1,e2⟩ | ⟨w1,w2⟩)
        ·have h7:=hL7 z hz
         have k1:=inj i hi z.1 ⋯ e1
         have k2:=inj j hj z.2 ⋯ e2
         have:(i,j)=z:=by rw[k1,k2]
         exact .inl (this ▸ hz)
        ·obtain⟨i',hi',e'⟩:=tk _ w1
         have:=inj i hi i' ⋯ e'
         have:=inj j hj 7 ⋯ (by rw[w2,hl])
         exact .inr ⟨by omega,by omega⟩
       ·rintro (h | ⟨h1,h2⟩)
        ·exact .inl ⟨_,h,rfl,rfl⟩
        ·exact .inr ⟨kt i h1,by rw[h2,hl]⟩
      have no7:∀i<8,L.contains (i,7)=false∧L.contains (7,i)=false:=fun i hi=>by
       refine⟨?_,?_⟩ <;>
       ·rw[←br,aw]
        intro hz
        have:=hL7 _ hz
        have h1:=this.1
        have h2:=this.2
        simp at h1 h2
      refine⟨T2,_,_,_,_,rfl,sq2,fun i hi=>?_,fun i hi j hj hij=>?_⟩
      ·obtain⟨x',hx',rfl⟩:=sur i hi
       rw[key x' hx' x' hx']
       by_cases h7:x'<7
       ·rw[okx x' h7,decide_eq_false (show ¬x'=7 by omega)]
        simp
       ·have:x'=7:=by omega
        subst this
        rw[(no7 7 ⋯).1]
        simp
      ·obtain⟨x',hx',rfl⟩:=sur i hi
       obtain⟨y',hy',rfl⟩:=sur j hj
       have hne':x'≠y':=fun z=>hij (by rw[z])
       rw[key x' hx' y' hy',key y' hy' x' hx']
       by_cases h7:x'<7
       ·by_cases h7':y'<7
        ·rw[oky x' h7 y' h7' hne',decide_eq_false (show ¬y'=7 by omega),decide_eq_false (show ¬x'=7 by omega)]
         simp
        ·have:y'=7:=by omega
         subst this
         rw[(no7 x' hx').1,(no7 x' hx').2,decide_eq_true h7]
         simp
       ·have:x'=7:=by omega
        subst this
        have h7':y'<7:=by omega
        rw[(no7 y' hy').1,(no7 y' hy').2,decide_eq_true h7']
        simp
    ·rintro z hz
     rw[hw,if_neg (by simp)]at hz
     exact⟨_,rfl,hz⟩
   ·rintro z ⟨T',o2',o4',o5',o6',rfl,F⟩
    simp! only[z0c]
    exact⟨_,rfl,T',rfl,F⟩
theorem y3F(n:Int):z1w [.int n]=some (.bl true):=by
 refine z0z rfl ?_
 simp_all! only[z4r,z0c]
theorem z9d{m:Nat}{T:LB}(sq:Sq m T)(hm:m≤1000){th:List Nat}(hl:th.length≤1000)(h:∀x∈th,x<m):z2e [z0q T,thD th]=some (thD (btL T m th)):=by
 refine z0z rfl ?_
 simp! only[z3l,z3E,y3C,z2r,sq.1,z0K (show m≤1000000 by omega)]
 refine z0G (I:=fun s=>∃o3,s=[some (.sh (z0q T)),some (.sh (thD th)),some (.ow (thD (btL T m th))),o3]) ?_ ?_
 ·refine z3m (fun k s=>∃o3,s=[some (.sh (z0q T)),some (.sh (thD th)),some (.ow (thD ((ah k).filter fun a=>th.all fun j=>at2 T a j))),o3]) ⟨_,rfl⟩ ?_ fun s z=>⟨s,rfl,z⟩
  rintro k hk s ⟨o3,rfl⟩
  simp! only[bC,z1D]
  rw[z5H (fun j=>!at2 T k j) nD hl (fun j hj=>by simp! only[nD,ix2 sq hk (h j hj)]) fun x hx _=>by simp! only[]]
  have e:decide (((th.filter fun j=>!at2 T k j).length:Int)=0)=th.all fun j=>at2 T k j:=by
   rw[bI,decide_eq_true_iff,az]
   constructor
   ·intro z x hx
    have z:th.filter (fun j=>!at2 T k j)=[]:=bx.mp ⋯
    have:=aT.mp z x hx
    simpa using this
   ·intro z
    rw[aT.mpr fun x hx=>by simp[z x hx]]
    rfl
  have im:y1r (some [.int (k:Int)])=some [.int (k:Int)]:=z4J rfl
  have hz:=bd (fun a=>th.all fun j=>at2 T a j) (ah k)
  rw[bJ]at hz
  have ap:=y9v (th:=(ah k).filter fun a=>th.all fun j=>at2 T a j) (k:=k) ⋯
  simp! only[y2b,z2I,e,im,ap]
  rw[x1f]
  cases th.all fun j=>at2 T k j with
  |true=>
   simp! only[z0c,if_true]
   exact⟨_,rfl⟩
  |false=>
   simp! only[z0c,bF,if_false,aF]
   exact⟨_,rfl⟩
 ·rintro s ⟨o3,rfl⟩
  simp! only[z0c]
theorem sub_fil{B:List Nat}{p:Nat->Bool}:B.filter p∈z7p B:=by
 have h:∀n,(B.take n).filter p∈z7p (B.take n):=fun n=>by
  induction n with
  |zero=>simp[z7p]
  |succ n ih=>
   by_cases hn:n<B.length
   ·have e:B.take (n+1)=B.take n++[B[n]]:=by rw[dG,am hn];rfl
    rw[e,z9f,bS]
    cases hp:p B[n]with
    |true=>
     have:[B[n]].filter p=[B[n]]:=by simp[hp]
     rw[this]
     exact aC _ (bf.mpr ⟨_,ih,rfl⟩)
    |false=>
     have:[B[n]].filter p=[]:=by simp[hp]
     rw[this,aF]
     exact aQ _ ih
   ·have e:B.take (n+1)=B.take n:=by rw[aS ⋯,aS ⋯]
    rw[e]
    exact ih
 have:=h B.length
 rw[aS (ar _)]at this
 exact this
theorem y4Q{m:Nat}{T:LB}(F:Full m T):∀{r:List Nat},(∀u∈r,u<m)->r.Pairwise (fun x y=>at2 T x y=true)->∀u∈r,∀v∈r,∀w∈r,at2 T u v=true->at2 T v w=true->at2 T w u=true->False
 |[],_,_,_,hu,_,_,_,_=>nomatch hu
 |a::r,lt,pw,u,hu,v,hv,w,hw=>fun h1 h2 h3=>by
  have pc:=aM.mp pw
  have la:=lt a ac
  have lr:∀x∈r,x<m:=fun x hx=>lt x (ae _ hx)
  have no:∀x∈a::r,at2 T x a=true->False:=fun x hx h=>by
   rcases ai.mp hx with z | z
   ·rw[z,F.own a la]at h;cases h
   ·exact F.no la (lr x z) (pc.1 x z) h
  rcases ai.mp hu with z | zu
  ·rw[z]at h3;exact no w hw h3
  ·rcases ai.mp hv with z | zv
   ·rw[z]at h1;exact no u hu h1
   ·rcases ai.mp hw with z | zw
    ·rw[z]at h2;exact no v hv h2
    ·exact y4Q F lr pc.2 u zu v zv w zw h1 h2 h3
def cwP(T:LB)(m a:Nat)(s:List Nat):Bool:=!(x2D T s&&decide (((btL T m (s++[a])).length:Int)=0))
theorem y6M{T:LB}{m:Nat}{c e:List Nat}(h:∀x,x∈c↔x∈e):crP T m c=crP T m e:=by
 rw[bI,bt_nil,bt_nil]
 constructor
 ·intro z x hx
  obtain⟨y,hy,q⟩:=z x hx
  exact⟨y,(h y).mp hy,q⟩
 ·intro z x hx
  obtain⟨y,hy,q⟩:=z x hx
  exact⟨y,(h y).mpr hy,q⟩
theorem cw_cr{m:Nat}{T:LB}(F:Full m T){a:Nat}(ha:a<m):(z7p (btN T m a)).all (cwP T m a) = !crB T m a:=by
 have A:=F.ant
 have hbn:∀x∈btN T m a,x<m∧at2 T a x=true:=fun x hx=>⟨ak.mp (af.mp hx).1,by have:=(af.mp hx).2;simpa using this⟩
 have ssub:∀s∈z7p (btN T m a),∀x∈s,x∈btN T m a:=fun s hs=>by
  have h:=y9G (B:=btN T m a) (n:=(btN T m a).length)
  rw[aS (ar _)]at h
  exact(h.2 s hs).1
 cases hc:crB T m a with
 |false=>
  refine az.mpr fun s hs=>?_
  unfold cwP
  cases hr:x2D T s with
  |false=>rfl
  |true=>
   have hlt:∀x∈s,x<m:=fun x hx=>(hbn x (ssub s hs x hx)).1
   obtain⟨r,hrc,hrm⟩:=z6W F (S:=s) hlt fun x hx y hy z hz h1 h2 h3=>rnd_no hr hx hy hz h1 h2 h3
   have ch:chB T (a::r)=true:=by
    rw[z4D,hrc,Bool.and_true,az]
    exact fun x hx=>(hbn x (ssub s hs x ((hrm x).mp hx))).2
   have hlt2:∀x∈a::r,x<m:=fun x hx=>by
    rcases ai.mp hx with z | z
    ·rw[z];exact ha
    ·exact hlt x ((hrm x).mp z)
   have hin:=y9N A ch hlt2
   have:crP T m (a::r)=false:=by
    have:=cO.mp hc _ hin
    simpa using this
   have e:crP T m (s++[a])=false:=by
    rw[←this]
    refine y6M fun x=>?_
    rw[au,ag,ai,hrm x]
    exact Or.comm
   have e:decide (((btL T m (s++[a])).length:Int)=0)=false:=e
   rw[e]
   rfl
 |true=>
  rw[eL,dL]
  obtain⟨c,hcm,hcr⟩:=bP.mp hc
  obtain⟨h1,⟨r,rfl⟩,h3⟩:=hd_ok ha (A.own a ha) (ar _) c hcm
  have pw:=aM.mp (chB_iff.mp h1)
  refine⟨(btN T m a).filter fun x=>r.contains x,sub_fil,?_⟩
  have hmem:∀x,x∈((btN T m a).filter fun x=>r.contains x)↔x∈r:=fun x=>by
   rw[af,aw]
   constructor
   ·exact fun h=>h.2
   ·exact fun h=>⟨af.mpr ⟨ak.mpr (h3 x (ae _ h)),by simpa using pw.1 x h⟩,h⟩
  have hr:x2D T ((btN T m a).filter fun x=>r.contains x)=true:=by
   unfold x2D
   refine az.mpr fun x hx=>az.mpr fun y hy=>?_
   have hx:=(hmem x).mp hx
   have hy:=(hmem y).mp hy
   have emp:at2 T x y=true->(((btN T m a).filter fun x=>r.contains x).filter fun z=>at2 T y z&&at2 T z x)=[]:=fun hxy=>aT.mpr fun z hz hq=>by
    have hz:=(hmem z).mp hz
    obtain⟨q1,q2⟩:=aq.mp hq
    have lt:∀u∈r,u<m:=fun u hu=>h3 u (ae _ hu)
    have tr:∀u∈r,∀v∈r,∀w∈r,at2 T u v=true->at2 T v w=true->at2 T w u=true->False:=y4Q F lt pw.2
    exact tr x hx y hy z hz hxy q1 q2
   cases hxy:at2 T x y with
   |false=>rfl
   |true=>
    rw[emp hxy]
    rfl
  have e:crP T m (((btN T m a).filter fun x=>r.contains x)++[a])=true:=by
   rw[←hcr]
   refine y6M fun x=>?_
   rw[au,ag,ai,hmem x]
   exact Or.comm
  have e:decide (((btL T m (((btN T m a).filter fun x=>r.contains x)++[a])).length:Int)=0)=true:=e
  unfold cwP
  rw[hr,e]
  simp
theorem y5T{m:Nat}{T:LB}(F:Full m T)(hm:m≤8){a:Nat}(ha:a<m):z1r [z0q T,.int (a:Int)]=some (.bl (crB T m a)):=by
 refine z0z rfl ?_
 have A:=F.ant
 have hbl:(btN T m a).length≤m:=y2I
 have cb:∀d2 d3:Option D,z1C (some (z5y 0 m)) (z1N (z0v (L2.d2 ixD (L2.d2 ixD (z0b 0) (z0b 1)) (z0b 4))) (z0b 4) [some (z0q T),some (.int (a:Int)),d2,d3])=some ((btN T m a).map nD):=fun d2 d3=>by
  rw[z1W]
  exact z5H (fun y=>at2 T a y) nD (by simp;omega) (fun y hy=>by simp! only[nD,ix2 A.sq ha (ak.mp hy)]) fun y _ _=>by simp! only[]
 have sb:=y5z (B:=btN T m a) ⋯
 have tl:∀W:List Nat,D.lst (W.map nD)=thD W:=fun _=>rfl
 have so:=x0i (B:=btN T m a) (pre:=btN T m a) (post:=[]) (by simp) ⋯
 have hbn:∀x∈btN T m a,x<m:=fun x hx=>ak.mp (af.mp hx).1
 have cw:=cw_cr F ha
 obtain⟨B,hB⟩:∃B,B=btN T m a:=⟨_,rfl⟩
 rw[←hB]at cb sb so hbn cw
 have sqs:y4R (.lst ((z7p B).map thD))=some ((z7p B).map thD):=rfl
 simp! only[z3i,z2r,A.sq.1,z0K (show m≤1000000 by omega),cb,tl,sb,sqs]
 refine y0W (c:=(z7p B).all (cwP T m a)) (d:=.bl true) (I:=fun s=>∃o3,s=[some (.sh (z0q T)),some (.sh (.int (a:Int))),some (.sh (thD B)),o3]) (z7b (enc:=thD) _ (cwP T m a) _ ⟨_,rfl⟩ ?_) ?_ ?_
 ·rintro c hc s ⟨o3,rfl⟩
  obtain⟨q1,q2⟩:=so.2 c hc
  have lt:∀x∈c,x<m:=fun x hx=>hbn x (q1 x hx)
  have re:=y5t A.sq (S:=c) ⋯ lt
  have t1:D.lst [.int (a:Int)]=thD [a]:=rfl
  have ct:=z7x (a:=c) (b:=[a]) (by simp;omega)
  have lb:=z9d A.sq ⋯ (th:=c++[a]) (by simp;omega) (fun x hx=>by
   rcases au.mp hx with z | z
   ·exact lt x z
   ·rw[ag.mp z];exact ha)
  obtain⟨p,hp⟩:∃p,p=x2D T c:=⟨_,rfl⟩
  obtain⟨q,hq⟩:∃q,q=decide (((btL T m (c++[a])).length:Int)=0):=⟨_,rfl⟩
  have ec:cwP T m a c = !(p&&q):=by rw[hp,hq];rfl
  rw[←hp]at re
  obtain⟨W,hW⟩:∃W,W=c++[a]:=⟨_,rfl⟩
  rw[←hW]at ct lb hq
  cases p with
  |false=>
   simp_all! only[re,z0c,ec,if_true]
   exact⟨_,rfl,_,rfl⟩
  |true=>
   cases q with
   |false=>
    simp_all! only[re,t1,ct,tl,lb,z2I,←hq,z0c,ec,if_true]
    exact⟨_,rfl,_,rfl⟩
   |true=>
    simp_all! only[re,t1,ct,tl,lb,z2I,←hq,z0c,ec,bF,if_false]
 ·rintro h s ⟨o3,rfl⟩
  have:crB T m a=false:=by
   rw[h]at cw
   cases hc:crB T m a with
   |false=>rfl
   |true=>rw[hc]at cw;cases cw
  rw[this]
  simp! only[z0c]
 ·intro h
  have:crB T m a=true:=by
   rw[h]at cw
   cases hc:crB T m a with
   |true=>rfl
   |false=>rw[hc]at cw;cases cw
  rw[this]
theorem y7Q{m:Nat}{T:LB}(sq:Sq m T)(hm:m≤1000):z1R [z0q T]=some (z0q T):=by
 refine z0z rfl ?_
 have hcp:z1C (y4R (z0q T)) (z1N z5z (z0u (z1z z6Q [z0b 1])) [some (z0q T)])=some (T.map z3n):=by
  have hl:(T.map z3n).length≤1000000:=by rw[ao,sq.1];omega
  rw[seq_tab,z5i hl]
  exact z6s z3n fun r _=>y5v rfl
 simp! only[z5a,hcp,z0c]
 rfl
structure Wsh(T:LB)(m c:Nat)(M:LB):Prop where
 sq:Sq m M
 up:∀a<m,∀b<m,at2 T a b=true->at2 M a b=true
 snd:∀a<m,∀b<m,at2 M a b=true->Rch T m a b
 thr:∀d<c,∀a<m,∀b<m,at2 M a d=true->at2 M d b=true->at2 M a b=true
def wsF(M:LB)(c k l a b:Nat):Bool:=at2 M a b||((decide (a<k)||(decide (a=k)&&decide (b<l)))&&(at2 M a c&&at2 M c b))
theorem ws_col{M:LB}{c k l a:Nat}:wsF M c k l a c=at2 M a c:=by
 unfold wsF
 cases at2 M a c <;> simp
theorem ws_row{M:LB}{c k l b:Nat}:wsF M c k l c b=at2 M c b:=by
 unfold wsF
 cases at2 M c b <;> simp
theorem Wsh.next{T M M':LB}{m c:Nat}(W:Wsh T m c M)(hc:c<m)(sq:Sq m M')(e:∀a<m,∀b<m,at2 M' a b=(at2 M a b||(at2 M a c&&at2 M c b))):Wsh T m (c+1) M':=by
 have iff:∀a<m,∀b<m,at2 M' a b=true↔at2 M a b=true∨(at2 M a c=true∧at2 M c b=true):=fun a ha b hb=>by
  rw[e a ha b hb,dl,aq]
 refine⟨sq,fun a ha b hb h=>(iff a ha b hb).mpr (.inl (W.up a ha b hb h)),fun a ha b hb h=>?_,fun d hd a ha b hb h1 h2=>?_⟩
 ·rcases (iff a ha b hb).mp h with q | ⟨q1,q2⟩
  ·exact W.snd a ha b hb q
  ·exact(W.snd a ha c hc q1).trans (W.snd c hc b hb q2)
 ·have hdm:d<m:=by omega
  rw[iff a ha b hb]
  have g1:=(iff a ha d hdm).mp h1
  have g2:=(iff d hdm b hb).mp h2
  by_cases hdc:d=c
  ·subst hdc
   have k1:at2 M a d=true:=g1.elim id fun z=>z.1
   have k2:at2 M d b=true:=g2.elim id fun z=>z.2
   exact .inr ⟨k1,k2⟩
  ·have hd':d<c:=by omega
   rcases g1 with g1 | ⟨g1,g1'⟩
   ·rcases g2 with g2 | ⟨g2,g2'⟩
    ·exact .inl (W.thr d hd' a ha b hb g1 g2)
    ·exact .inr ⟨W.thr d hd' a ha c hc g1 g2,g2'⟩
   ·rcases g2 with g2 | ⟨g2,g2'⟩
    ·exact .inr ⟨g1,W.thr d hd' c hc b hb g1' g2⟩
    ·exact .inr ⟨g1,g2'⟩
theorem Wsh.all{T M:LB}{m:Nat}(W:Wsh T m m M){a:Nat}(ha:a<m){b:Nat}(h:Rch T m a b):b<m∧(b=a∨at2 M a b=true):=by
 induction h with
 |here=>exact⟨ha,.inl rfl⟩
 | @step x y _ hy hxy ih=>
  refine⟨hy,.inr ?_⟩
  have h1:=W.up x ih.1 y hy hxy
  rcases ih.2 with q | q
  ·rw[←q];exact h1
  ·exact W.thr x ih.1 a ha y hy q h1
theorem y6B{m:Nat}{T:LB}(F:Full m T)(hm:m≤60){r0:List Nat}{rest:List (List Nat)}(hr:rgL T m=r0::rest):z4C [z0q T]=some (thD r0):=by
 refine z0z rfl ?_
 have G:=z6D (T:=T) (m:=m)
 rw[hr]at G
 have cp:=y7Q F.sq ⋯
 simp! only[z6z,z2r,F.sq.1,cp,z0K (show m≤1000000 by omega)]
 refine z0G (I:=fun s=>∃(M:LB) (o3 o4 o5:Option SD),s=[some (.sh (z0q T)),some (.sh (.int (m:Int))),some (.ow (z0q M)),o3,o4,o5]∧Wsh T m m M) ?_ ?_
 ·refine z3m (fun c s=>∃(M:LB) (o3 o4 o5:Option SD),s=[some (.sh (z0q T)),some (.sh (.int (m:Int))),some (.ow (z0q M)),o3,o4,o5]∧Wsh T m c M) ⟨T,_,_,_,rfl,F.sq,fun _ _ _ _ h=>h,fun a ha b hb h=>.step .here hb h,fun d hd=>absurd hd ⋯⟩ ?_ fun s z=>⟨s,rfl,z⟩
  rintro c hc s ⟨M,o3,o4,o5,rfl,W⟩
  simp! only[z0K (show m≤1000000 by omega),bC]
  refine z3m (fun k s=>∃(M':LB) (o4 o5:Option SD),s=[some (.sh (z0q T)),some (.sh (.int (m:Int))),some (.ow (z0q M')),some (.sh (.int (c:Int))),o4,o5]∧Sq m M'∧∀a<m,∀b<m,at2 M' a b=wsF M c k 0 a b) ⟨M,_,_,rfl,W.sq,fun a ha b hb=>by simp[wsF]⟩ ?_ ?_
  ·rintro k hk s ⟨M',o4,o5,rfl,sq',hM⟩
   simp! only[z0K (show m≤1000000 by omega),bC]
   refine z3m (fun l s=>∃(M':LB) (o5:Option SD),s=[some (.sh (z0q T)),some (.sh (.int (m:Int))),some (.ow (z0q M')),some (.sh (.int (c:Int))),some (.sh (.int (k:Int))),o5]∧Sq m M'∧∀a<m,∀b<m,at2 M' a b=wsF M c k l a b) ⟨M',_,rfl,sq',hM⟩ ?_ ?_
   ·rintro l hl s ⟨N,o5,rfl,sq2,hN⟩
    have i1:=ix2 sq2 hk hc
    have i2:=ix2 sq2 hc hl
    rw[hN k hk c hc,ws_col]at i1
    rw[hN c hc l hl,ws_row]at i2
    have h1:k<N.length:=by rw[sq2.1];exact hk
    have h2:l<N[k].length:=by rw[sq2.row h1];exact hl
    have st1:=z5F (v:=true) h1 h2
    obtain⟨p,hp⟩:∃p,at2 M k c=p:=⟨_,rfl⟩
    obtain⟨q,hq⟩:∃p,at2 M c l=p:=⟨_,rfl⟩
    have stay:(p&&q)=false->∀a<m,∀b<m,at2 N a b=wsF M c k (l+1) a b:=fun hpq a ha b hb=>by
     rw[hN a ha b hb]
     unfold wsF
     by_cases hab:a=k∧b=l
     ·obtain⟨rfl,rfl⟩:=hab
      rw[hp,hq,hpq]
      simp
     ·have:(decide (a=k)&&decide (b<l))=(decide (a=k)&&decide (b<l+1)):=by
       by_cases h3:a=k
       ·have:b≠l:=fun z=>hab ⟨h3,z⟩
        have:decide (b<l)=decide (b<l+1):=by rw[decide_eq_decide];omega
        rw[this]
       ·rw[decide_eq_false h3];rfl
      rw[this]
    have go:(p&&q)=true->∀a<m,∀b<m,at2 (N.set k (N[k].set l true)) a b=wsF M c k (l+1) a b:=fun hpq a ha b hb=>by
     rw[z7B h1 h2]
     by_cases hab:a=k∧b=l
     ·rw[if_pos hab]
      obtain⟨rfl,rfl⟩:=hab
      unfold wsF
      rw[hp,hq,hpq]
      simp
     ·rw[if_neg hab,hN a ha b hb]
      unfold wsF
      have:(decide (a=k)&&decide (b<l))=(decide (a=k)&&decide (b<l+1)):=by
       by_cases h3:a=k
       ·have:b≠l:=fun z=>hab ⟨h3,z⟩
        have:decide (b<l)=decide (b<l+1):=by rw[decide_eq_decide];omega
        rw[this]
       ·rw[decide_eq_false h3];rfl
      rw[this]
    rw[hp]at i1
    rw[hq]at i2
    cases hpq:p&&q with
    |false=>
     have st:=stay hpq
     simp! only[bC,i1,i2,hpq,z0c]
     exact⟨N,_,rfl,sq2,st⟩
    |true=>
     have g:=go hpq
     simp! only[bC,i1,i2,hpq,st1,z0c]
     exact⟨_,_,rfl,sq2.set h1,g⟩
   ·rintro s ⟨N,o5,rfl,sq2,hN⟩
    refine⟨N,_,_,rfl,sq2,fun a ha b hb=>?_⟩
    rw[hN a ha b hb]
    unfold wsF
    congr 2
    rw[decide_eq_true hb,Bool.and_true]
    by_cases h1:a=k
    ·subst h1;simp
    ·rw[decide_eq_false h1,eK]
     simp
     omega
  ·rintro s ⟨N,o4,o5,rfl,sq2,hN⟩
   refine⟨N,_,_,_,rfl,W.next hc sq2 fun a ha b hb=>?_⟩
   rw[hN a ha b hb]
   unfold wsF
   rw[decide_eq_true ha,Bool.true_or,cS]
 ·rintro s ⟨M,o3,o4,o5,rfl,W⟩
  have cx:∀d3 d4 d5:Option D,z1C (some (z5y 0 m)) (z1N (z0D (d2 eqD (z0k z1M [mkL (z1c (z1j (z0b 1)) (z3T (z0D (d2 neD (z0b 7) (z0b 6))) (z2B (z0v (d2 ixD (d2 ixD (z0b 2) (z0b 6)) (z0b 7))))) (z0b 7))]) (dC (.int 0)))) (z0b 6) [some (z0q T),some (.int (m:Int)),some (z0q M),d3,d4,d5])=some (r0.map nD):=fun d3 d4 d5=>by
   rw[z1W,z5H (enc:=nD) (fun(a:Nat)=>decide ((((ah m).filter fun(b:Nat)=>(!decide ((b:Int)=(a:Int))) && !at2 M a b).length:Int)=0)) nD (by simp;omega) (fun a ha=>by
    have ha:=ak.mp ha
    simp! only[nD,z0K (show m≤1000000 by omega),z1W]
    rw[z5H (enc:=nD) (fun(b:Nat)=>(!decide ((b:Int)=(a:Int))) && !at2 M a b) nD (by simp;omega) (fun b hb=>by
     have hb:=ak.mp hb
     simp! only[nD,ix2 W.sq ha hb]) fun b _ _=>by simp! only[]]
    have tl:∀W:List Nat,D.lst (W.map nD)=thD W:=fun _=>rfl
    simp! only[tl,z2I]) fun a _ _=>by simp! only[]]
   congr 2
   obtain⟨a0,ha0,e0⟩:=(G.mem r0).mp ac
   rw[e0]
   unfold cls
   refine cN fun a ha=>?_
   have ha:=ak.mp ha
   rw[bI,decide_eq_true_iff]
   have t1:(decide ((rcL T m a).length=(rcL T m a0).length)=true)↔a∈r0:=by
    rw[e0]
    unfold cls
    rw[af,ak]
    exact⟨fun h=>⟨ha,h⟩,fun h=>h.2⟩
   rw[t1,G.top ha]
   constructor
   ·intro h b hb
    have h:((ah m).filter fun(b:Nat)=>(!decide ((b:Int)=(a:Int))) && !at2 M a b)=[]:=bx.mp ⋯
    have:=aT.mp h b (ak.mpr hb)
    by_cases hba:b=a
    ·rw[hba];exact ar _
    ·have h2:at2 M a b=true:=by
      have d1:decide ((b:Int)=(a:Int))=false:=decide_eq_false ⋯
      rw[d1]at this
      simpa using this
     exact(z7A F ha hb).mp (W.snd a ha b hb h2)
   ·intro h
    have:((ah m).filter fun(b:Nat)=>(!decide ((b:Int)=(a:Int))) && !at2 M a b)=[]:=aT.mpr fun b hb=>by
     have hb:=ak.mp hb
     rcases (W.all ha ((z7A F ha hb).mpr (h b hb))).2 with q | q
     ·rw[q];simp
     ·rw[q];simp
    rw[this]
    rfl
  simp! only[z0K (show m≤1000000 by omega),cx,z1U,z0c]
  rfl
theorem y4T(o:List Nat):o.map nD=(o.map fun n=>((n:Nat):Int)).map D.int:=by rw[bp];rfl
theorem y7H{m:Nat}(hm:m≤30){o:List Nat}(hp:o.Perm (ah m)):y5E [thD o]=some ((ah m).map nD):=by
 have hl:=z1h hp
 unfold thD
 rw[y4T,x2t (by simp;omega),y4T (ah m)]
 congr 2
 have up:((ah m).map fun n=>((n:Nat):Int)).Pairwise (· ≤ ·):=by
  rw[bV]
  exact bR.imp fun h=>by omega
 exact(z9F (hp.symm.map _) up).symm
theorem th_same(o:List Nat):eqD (thD o) (thD o)=some (.bl true):=eq_self (x3c o)
theorem y5J{m:Nat}(hm:m≤30){o:List Nat}(hp:o.Perm (ah m)):z1E [thD o,.int (m:Int)]=some (.bl true):=by
 refine z0z rfl ?_
 have hl:=z1h hp
 have il:isF "list" (thD o)=true:=rfl
 have d0:(!decide ((m:Int)=(m:Int)))=false:=by simp
 simp_all! only[z2M,il,z2I,hl,d0,z1D]
 refine z0G (I:=fun s=>∃o2,s=[some (.sh (thD o)),some (.sh (.int (m:Int))),o2]) ?_ ?_
 ·refine z1q (enc:=nD) (fun pre s=>∃o2,s=[some (.sh (thD o)),some (.sh (.int (m:Int))),o2]) ⟨_,rfl⟩ ?_ fun s z=>⟨s,rfl,z⟩
  rintro pre x post e s ⟨o2,rfl⟩
  simp_all! only[nD,y3F,z0c]
  exact⟨_,rfl⟩
 ·rintro s ⟨o2,rfl⟩
  have so:=y7H hm hp
  have tl:∀W:List Nat,D.lst (W.map nD)=thD W:=fun _=>rfl
  simp! only[so,z0K (show m≤1000000 by omega),z1W,x1T (show((ah m).map nD).length≤1000000 by simp;omega),tl,th_same,z0c]
def z7R:List Str:=["", "Plain", "aheads", "rest ", "left", "chair"]
theorem y4z{w:Str}(hw:w∈z7R){d e:D}:z0o [d,.str w,e]=some (.exc 3):=by
 have hw:w = "" ∨ w = "Plain" ∨ w = "aheads" ∨ w = "rest " ∨ w = "left" ∨ w = "chair" := by simpa[z7R] using hw
 have h1:eqD (.str w) (.str "plain")=some (.bl false):=by rcases hw with rfl | rfl | rfl | rfl | rfl | rfl <;> exact z2u (by decide +kernel) (by decide +kernel) (by decide +kernel)
 have h2:eqD (.str w) (.str "ahead")=some (.bl false):=by rcases hw with rfl | rfl | rfl | rfl | rfl | rfl <;> exact z2u (by decide +kernel) (by decide +kernel) (by decide +kernel)
 have h3:eqD (.str w) (.str "rest")=some (.bl false):=by rcases hw with rfl | rfl | rfl | rfl | rfl | rfl <;> exact z2u (by decide +kernel) (by decide +kernel) (by decide +kernel)
 refine z8f rfl ?_
 simp! only[z1b,h1,h2,h3,z0c]
 exact⟨_,rfl⟩
section
variable{m:Nat}{T:LB}{w:Str}
theorem y7j(sq:Sq m T)(h0:0<m)(hm:m≤8)(hw:w∈z7R):z1m [z0q T,.str w]=some (.exc 3):=by
 refine z8f rfl ?_
 obtain⟨n,rfl⟩:∃n,m=n+1:=⟨m - 1,by omega⟩
 obtain⟨r,er⟩:∃r,(ah (n+1)).map nD=nD 0::r:=⟨_,by rw[List.range_succ_eq_map,aH]⟩
 have hl:(nD 0::r).length≤1000000:=by rw[←er];simp;omega
 have c1:z1C (some (nD 0::r)) (z1N z5z (z2l z0o [(z0b 0),(z0b 1),(z0b 3)]) [some (z0q T),some (.str w),none])=none:=by
  rw[z5i hl]
  have e1:z1N z5z (z2l z0o [(z0b 0),(z0b 1),(z0b 3)]) [some (z0q T),some (.str w),none] (nD 0)=none:=by
   show(z5z _).bind _=_
   show((z2l z0o [(z0b 0),(z0b 1),(z0b 3)]) ([some (z0q T),some (.str w),none]++[some (nD 0)])).map some=none
   have:z2l z0o [(z0b 0),(z0b 1),(z0b 3)] ([some (z0q T),some (.str w),none]++[some (nD 0)])=none:=by
    show valO (z0o [z0q T,.str w,nD 0])=none
    rw[y4z hw]
    rfl
   rw[this]
   rfl
  show(z1N z5z (z2l z0o [(z0b 0),(z0b 1),(z0b 3)]) [some (z0q T),some (.str w),none] (nD 0)).bind _=none
  rw[e1]
  rfl
 have a1:=alt_r (h:=exc1 (z1j (z0k z1M [(z0b 0)])) (z1y z0o [(z0b 0),(z0b 1),(z0b 3)])) (s:=[some (.sh (z0q T)),some (.sh (.str w)),none]) (g:=z5j 2 (mkL (z1c (z1j (z0k z1M [(z0b 0)])) z5z (z2l z0o [(z0b 0),(z0b 1),(z0b 3)])))) (by
  simp! only[show shO none=none from rfl,z2r,sq.1,z0K (show n+1≤1000000 by omega),z1W,er,c1]
  rfl)
 have r1:z1j (z0k z1M [(z0b 0)]) [some (z0q T),some (.str w),none]=some (nD 0::r):=by
  simp! only[z2r,sq.1,z0K (show n+1≤1000000 by omega),z1W,er]
 have f1:z1y z0o [(z0b 0),(z0b 1),(z0b 3)] [some (z0q T),some (.str w),none,some (nD 0)]=some (.exc 3):=by
  show z0o [z0q T,.str w,nD 0]=_
  exact y4z hw
 have x1:exc1 (z1j (z0k z1M [(z0b 0)])) (z1y z0o [(z0b 0),(z0b 1),(z0b 3)]) [some (.sh (z0q T)),some (.sh (.str w)),none]=some (.ex 3 [some (.sh (z0q T)),some (.sh (.str w)),none]):=by
  unfold exc1
  show(z1j (z0k z1M [(z0b 0)]) [some (z0q T),some (.str w),none]).bind _=_
  rw[r1]
  show(z1y z0o [(z0b 0),(z0b 1),(z0b 3)] [some (z0q T),some (.str w),none,some (nD 0)]).bind _=_
  rw[f1]
  rfl
 rw[x1]at a1
 simp! only[z3z,a1,z0c]
 exact⟨_,rfl⟩
end
theorem y3E{i:Nat}{F:DS->Option XO}{s:SS}{d:D}(h:F (shV s)=some (.val d)):z8s i F s=some (.nx (s.set i (some (.sh d)))):=by
 unfold z8s
 rw[h]
 rfl
theorem x0A{i c:Nat}{F:DS->Option XO}{s:SS}(h:F (shV s)=some (.exc c)):z8s i F s=some (.ex c s):=by
 unfold z8s
 rw[h]
 rfl
theorem x1N{m:Nat}(hm:m≤1000){o:List Nat}(hp:o.Perm (ah m)):z0Y [sD o,.int (m:Int)]=some (.bl true):=by
 refine z0z rfl ?_
 have hl:decide ((o.length:Int)=(m:Int))=true:=decide_eq_true (by rw[z1h hp])
 have t0:D.dct [] []=z7m []:=rfl
 simp_all! only[z0T,len_sc,hl,t0,y6v]
 refine z0G (I:=fun s=>∃p o3,s=[some (.sh (sD o)),some (.sh (.int (m:Int))),some (.ow (z7m p)),o3]) ?_ ?_
 ·refine z1q (fun pre s=>∃o3,s=[some (.sh (sD o)),some (.sh (.int (m:Int))),some (.ow (z7m (pre.map fun n=>((n:Nat):Int)))),o3]) ⟨none,rfl⟩ ?_ fun s ⟨o3,z⟩=>⟨s,rfl,_,o3,z⟩
  rintro pre x post e s ⟨o3,rfl⟩
  have hx:x∈o:=by rw[e];simp
  have hxm:=z3y hp x hx
  have it:=y2o (x:=(x:Int)) (m:=m) ⟨by omega,by omega⟩
  have nd:=y7A hp
  rw[e,aO]at nd
  have hnp:(x:Int)∉pre.map fun n=>((n:Nat):Int):=fun z=>by
   obtain⟨y,hy,hyx⟩:=bf.mp z
   have:y=x:=by omega
   subst this
   exact nd.2.2 y hy y ac rfl
  have hpl:(pre.map fun n=>((n:Nat):Int)).length≤1000000:=by
   have h1:=z1h hp
   rw[e,aB]at h1
   rw[ao]
   omega
  simp_all! only[nD,it,y8k hnp,y4G hnp hpl,z0c]
  rw[aR]
  exact⟨_,rfl⟩
 ·rintro s ⟨p,o3,rfl⟩
  simp! only[z0c]
theorem askX_sc{m:Nat}(hm:m≤1000)(h0:0<m){o:List Nat}(hp:o.Perm (ah m)):z1K [sD o,.int (m:Int)]=some (.val .non):=by
 refine runX_nx rfl ?_
 have d0:decide ((m:Int)=0)=false:=decide_eq_false ⋯
 simp_all! only[z2C,d0,x1N hm hp,z0c]
 exact⟨_,rfl⟩
section
variable{m:Nat}{T:LB}
theorem best_eq(F:Full m T)(h0:0<m)(hm:m≤8){k:Nat}(hk:k<3){w:List Nat}(hp:w.Perm (ah m)):∃b q o,z1d [z0q T,.str (kS k),sD w]=some (.val (.tup [.int ((b:Nat):Int),thD o]))∧w.filter (z8z T m k)=b::q∧o.Perm (ah m)∧x2H T k o=b:=by
 obtain⟨E,e1,e2⟩:=z7N F h0 hm hk
 have lt:=z3y hp
 obtain⟨b,q,hb⟩:∃b q,w.filter (z8z T m k)=b::q:=by
  cases hf:w.filter (z8z T m k)with
  |cons b q=>exact⟨b,q,rfl⟩
  |nil=>
   obtain⟨h1,h2⟩:=had_of F h0 hp hk
   have:x2H T k w∈w.filter (z8z T m k):=af.mpr ⟨hp.mem_iff.mpr (ak.mpr h1),h2⟩
   rw[hf]at this
   cases this
 have hbm:b∈w.filter (z8z T m k):=by rw[hb];exact ac
 have hbw:=af.mp hbm
 have hbl:=lt b hbw.1
 obtain⟨o,eo,po,lo⟩:=(e2 b hbl).2 hbw.2
 refine⟨b,q,o,?_,hb,po,lo⟩
 refine z4p rfl ?_
 have ix:∀a<m,ixD (.lst ((ah m).map E)) (.int (a:Int))=some (E a):=fun a ha=>by
  show atI _ _=_
  exact z2q (by rw[aG,cI ha];rfl)
 have oa:=askX_sc (m:=m) ⋯ h0 hp
 have ln:z1M [z0q T]=some (.int (m:Int)):=by rw[z2r,F.sq.1]
 obtain⟨L,hL⟩:∃L,L=(ah m).map E:=⟨_,rfl⟩
 rw[←hL]at e1 ix
 have wl:w.length≤1000:=by have:=z1h hp;omega
 have cx:∀p,z1C (some (w.map nD)) (z1N (y7R (d2 ixD (z0b 3) (z0b 5))) (z0b 5) [some (z0q T),some (.str (kS k)),some (sD w),some (.lst L),p])=some ((w.filter (z8z T m k)).map nD):=fun p=>by
  refine z5H (enc:=nD) (xs:=w) (z8z T m k) nD wl (fun x hx=>?_) fun x _ _=>by simp! only[]
  have hx:=lt x hx
  have en:=(e2 x hx).1
  simp! only[nD,ix x hx]
  rw[en,Bool.not_not]
 rw[hb]at cx
 have a0:atI ((b::q).map nD) 0=some (.int (b:Int)):=by rw[aH];exact y3r
 obtain⟨Q,hQ⟩:∃Q,Q=(b::q).map nD:=⟨_,rfl⟩
 rw[←hQ]at cx a0
 have ib:=ix b hbl
 rw[eo]at ib
 have ax:z8s 3 (z1y z1m [(z0b 0),(z0b 1)]) [some (.sh (z0q T)),some (.sh (.str (kS k))),some (.sh (sD w)),none,none]=some (.nx [some (.sh (z0q T)),some (.sh (.str (kS k))),some (.sh (sD w)),some (.sh (.lst L)),none]):=y3E (by
  simp! only[e1])
 simp! only[z3r,ax,ln,oa,y6v,cx,a0,ib,z0c]
theorem x1w(F:Full m T)(h0:0<m)(hm:m≤8){k:Nat}(hk:k<3){l:List Int}(hl:l.length≤1000)(h:z8c m l=false):z1d [z0q T,.str (kS k),.lst (l.map .int)]=some (.exc 1):=by
 obtain⟨E,e1,_⟩:=z7N F h0 hm hk
 refine z8f rfl ?_
 have oa:=x1p hl h0 h
 have ln:z1M [z0q T]=some (.int (m:Int)):=by rw[z2r,F.sq.1]
 obtain⟨L,hL⟩:∃L,L=(ah m).map E:=⟨_,rfl⟩
 rw[←hL]at e1
 obtain⟨W,hW⟩:∃W,W=D.lst (l.map .int):=⟨_,rfl⟩
 rw[←hW]at oa ⊢
 have ax:z8s 3 (z1y z1m [(z0b 0),(z0b 1)]) [some (.sh (z0q T)),some (.sh (.str (kS k))),some (.sh W),none,none]=some (.nx [some (.sh (z0q T)),some (.sh (.str (kS k))),some (.sh W),some (.sh (.lst L)),none]):=y3E (by
  simp! only[e1])
 simp! only[z3r,ax,ln,oa,z0c]
 exact⟨_,rfl⟩
theorem y4f(F:Full m T)(h0:0<m)(hm:m≤8){w:Str}(hw:w∈z7R){d:D}:z1d [z0q T,.str w,d]=some (.exc 3):=by
 refine z8f rfl ?_
 have e1:=y7j F.sq h0 hm hw
 have ax:z8s 3 (z1y z1m [(z0b 0),(z0b 1)]) [some (.sh (z0q T)),some (.sh (.str w)),some (.sh d),none,none]=some (.ex 3 [some (.sh (z0q T)),some (.sh (.str w)),some (.sh d),none,none]):=x0A (by
  simp! only[e1])
 simp! only[z3r,ax,z0c]
 exact⟨_,rfl⟩
theorem lhad_eq(F:Full m T)(h0:0<m)(hm:m≤8){k:Nat}(hk:k<3):∃L:List Nat,z1X [z0q T,.str (kS k)]=some (thD L)∧∀a<m,L.contains a=z8z T m k a:=by
 obtain⟨r0,rest,hr⟩:=(z6D (T:=T) (m:=m)).cons h0
 have lt:=y6B F ⋯ hr
 have hk:k=0∨k=1∨k=2:=by omega
 rcases hk with rfl | rfl | rfl
 ·refine⟨r0,?_,fun a ha=>?_⟩
  ·show z1X [z0q T,.str "plain"]=_
   refine z0z rfl ?_
   have e:eqD (.str "plain") (.str "ahead")=some (.bl false):=z2u (by decide +kernel) (by decide +kernel) (by decide +kernel)
   simp! only[z3w,e,lt,z0c]
  ·show _=((rgL T m).headD []).contains a
   rw[hr];rfl
 ·refine⟨(ah m).filter (crB T m),?_,fun a ha=>?_⟩
  ·show z1X [z0q T,.str "ahead"]=_
   refine z0z rfl ?_
   have cx:z1C (some ((ah m).map nD)) (z1N (z0v (z0k z1r [(z0b 0),(z0b 2)])) (z0b 2) [some (z0q T),some (.str "ahead")])=some (((ah m).filter (crB T m)).map nD):=
    z5H (enc:=nD) (crB T m) nD (by simp;omega) (fun x hx=>by
     have:=y5T F hm (ak.mp hx)
     simp! only[nD,this]) fun x _ _=>by simp! only[]
   obtain⟨G,hG⟩:∃G,G=(ah m).filter (crB T m):=⟨_,rfl⟩
   rw[←hG]at cx ⊢
   have tl:∀W:List Nat,D.lst (W.map nD)=thD W:=fun _=>rfl
   simp! only[z3w,k_aa,z2r,F.sq.1,z0K (show m≤1000000 by omega),z1W,cx,z1U,tl,z0c]
  ·show _=crB T m a
   rw[bI,aw,af,ak]
   exact⟨fun z=>z.2,fun z=>⟨ha,z⟩⟩
 ·refine⟨r0,?_,fun a ha=>?_⟩
  ·show z1X [z0q T,.str "rest"]=_
   refine z0z rfl ?_
   simp! only[z3w,k_ra,lt,z0c]
  ·show _=((rgL T m).headD []).contains a
   rw[hr];rfl
end
theorem ref_ord{d e f:D}(h:z1d [d,e,f]=some (.exc 1)):z0R [d,e,f]=some (.str "order"):=by
 refine z0z rfl ?_
 have x0:z4z ["BadOrder", "NotTop", "Unknown"] ["BadOrder", "NotTop", "Unknown"] (.exc "BadOrder")=some (.bl true):=rfl
 have x1:z4z ["Unknown"] ["BadOrder", "NotTop", "Unknown"] (.exc "BadOrder")=some (.bl false):=rfl
 have x2:z4z ["BadOrder"] ["BadOrder", "NotTop", "Unknown"] (.exc "BadOrder")=some (.bl true):=rfl
 have f1:y4Z [.bl false]=some (.int 0):=rfl
 have q1:eqD (.bl false) (.bl true)=some (.bl false):=rfl
 have i0:atI [D.str "order",.str "unknown"] 0=some (.str "order"):=rfl
 have i1:ixD (.lst [D.str "order",.str "unknown"]) (.int 0)=some (.str "order"):=rfl
 simp_all! only[z2f,h,x0,x1,x2,f1,q1,i0,i1,z0c]
theorem y9d{d e f:D}(h:z1d [d,e,f]=some (.exc 3)):z0R [d,e,f]=some (.str "unknown"):=by
 refine z0z rfl ?_
 have x0:z4z ["BadOrder", "NotTop", "Unknown"] ["BadOrder", "NotTop", "Unknown"] (.exc "Unknown")=some (.bl true):=rfl
 have x1:z4z ["Unknown"] ["BadOrder", "NotTop", "Unknown"] (.exc "Unknown")=some (.bl true):=rfl
 have x2:z4z ["BadOrder"] ["BadOrder", "NotTop", "Unknown"] (.exc "Unknown")=some (.bl false):=rfl
 have f1:y4Z [.bl true]=some (.int 1):=rfl
 have q1:eqD (.bl true) (.bl false)=some (.bl false):=rfl
 have i0:atI [D.str "order",.str "unknown"] 1=some (.str "unknown"):=rfl
 have i1:ixD (.lst [D.str "order",.str "unknown"]) (.int 1)=some (.str "unknown"):=rfl
 simp_all! only[z2f,h,x0,x1,x2,f1,q1,i0,i1,z0c]
theorem y8w{i:Nat}{g:SS->Option Out}{I:SS->Prop}:∀{ts:List Str} {s:SS},I s->(∀t∈ts,∀s,I s->hol (g (s.set i (some (.sh (.str t))))) fun o=>∃s',o = .nx s'∧I s')->∃s',x2N i g (ts.map .str) s=some (.nx s')∧I s'
 |[],s,h,_=>⟨s,rfl,h⟩
 |t::ts,s,h,st=>by
  obtain⟨_,e,s1,rfl,h1⟩:=st t ac s h
  obtain⟨s2,e2,h2⟩:=y8w h1 fun t ht=>st t (ae _ ht)
  refine⟨s2,?_,h2⟩
  rw[aH]
  unfold x2N
  rw[e]
  exact e2
theorem pin_is{i:Nat}{ts:List Str}{g h:SS->Option Out}{s:SS}{d:D}(I:SS->Prop)(h0:I s)(st:∀t∈ts,∀s,I s->hol (g (s.set i (some (.sh (.str t))))) fun o=>∃s',o = .nx s'∧I s')(k:∀s,I s->hol (h s) fun o=>o = .rt d):hol (pinO i ts g h s) fun o=>o = .rt d:=by
 obtain⟨s1,e,h1⟩:=y8w h0 st
 obtain⟨_,e2,rfl⟩:=k s1 h1
 refine⟨_,?_,rfl⟩
 unfold pinO
 rw[e]
 show(match h s1 with | some (.rt d)=>some (Out.rt d) | _=>none)=_
 rw[e2]
theorem y7V:∀r:List Nat,((r.map nD).all fun d=>match d with | .int _=>true | _=>false)=true
 |[]=>rfl
 |n::r=>by
  show(true&&(r.map nD).all fun d=>match d with | .int _=>true | _=>false)=true
  rw[y7V r]
  rfl
theorem apT_is{i:Nat}{f:DE}{s:SS}{b n:Int}{o:List Nat}(hi:s[i]? = some (some (.sh (.tup [.int b,thD o]))))(hf:f (z0w s)=some (.int n))(h0:0<o.length)(hl:o.length≤1000):apT i f s=some (.nx ((s.map z5U).set i (some (.sh (.tup [.int b,.lst (o.map nD++[.int n])]))))):=by
 cases o with
 |nil=>exact absurd h0 (by simp)
 |cons c r=>
  unfold apT
  rw[hi,hf]
  show(if(r.map nD).length+1<sizeLine∧((r.map nD).all fun d=>match d with | .int _=>true | _=>false)=true then _ else _)=_
  rw[if_pos ⟨by rw[ao,PySem.sizeLine_eq];simp at hl;omega,y7V r⟩]
  rfl
theorem y6j:∀r:List Bool,y7n (r.map bD)=true
 |[]=>rfl
 |b::r=>by
  show(true&&y7n (r.map bD))=true
  rw[y6j r]
  rfl
theorem hdI_bD:∀r:List Bool,hdI (r.map bD)=false
 |[]=>rfl
 |b::r=>rfl
theorem noK_row(r:List Bool):noK (z3n r)=true:=by
 show(!hdI (r.map bD)&&y7n (r.map bD))=true
 rw[hdI_bD,y6j]
 rfl
theorem y4g:∀T:LB,y7n (T.map z3n)=true
 |[]=>rfl
 |r::T=>by
  show(noK (z3n r)&&y7n (T.map z3n))=true
  rw[noK_row,y4g T]
  rfl
theorem hdI_tab:∀T:LB,hdI (T.map z3n)=false
 |[]=>rfl
 |r::T=>rfl
theorem y9O(T:LB):noK (z0q T)=true:=by
 show(!hdI (T.map z3n)&&y7n (T.map z3n))=true
 rw[hdI_tab,y4g]
 rfl
theorem x1n(T:LB)(w:List Nat):noK (.lst [z0q T,sD w])=true:=by
 show(!false&&(noK (z0q T)&&(true&&true)))=true
 rw[y9O]
 rfl
theorem y4C{d:D}(h:noK d=true):z5U (some (.sh d))=some (.sh d):=if_pos h
def iW(w:List Nat):List Int:=w.map fun n=>((n:Nat):Int)
def badL(m:Nat)(w:List Nat):List (List Int):=[iW (w.take (w.length - 1)),iW w++[((w.headD 0:Nat):Int)],iW w.tail++[(m:Int)],[],iW (w.tail.take 1)++iW w.tail,[-1]++iW w.tail]
theorem z3o{m:Nat}{l:List Int}(h:l.length=m->(∀x∈l,0≤x∧x<(m:Int))->l.Nodup->False):z8c m l=false:=by
 rw[←br]
 intro z
 unfold z8c at z
 rw[aJ,decide_eq_true_eq]at z
 obtain⟨a,b,_⟩:=y9B z.2
 exact h ⋯ a b
theorem z4s{w:List Nat}:(iW w).length=w.length:=by unfold iW;rw[ao]
theorem bad_all{m:Nat}(h0:0<m)(hm:m≤100){w:List Nat}(hp:w.Perm (ah m)):∀l∈badL m w,l.length≤1000∧z8c m l=false:=by
 have hl:=z1h hp
 intro l hx
 have hx:l=iW (w.take (w.length - 1))∨l=iW w++[((w.headD 0:Nat):Int)]∨l=iW w.tail++[(m:Int)]∨l=[]∨l=iW (w.tail.take 1)++iW w.tail∨l=[-1]++iW w.tail:=by simpa[badL] using hx
 rcases hx with rfl | rfl | rfl | rfl | rfl | rfl
 ·refine⟨by rw[z4s];simp;omega,z3o fun a _ _=>?_⟩
  rw[z4s,bZ]at a
  omega
 ·refine⟨by rw[aB,z4s];simp;omega,z3o fun a _ _=>?_⟩
  rw[aB,z4s]at a
  simp at a
  omega
 ·refine⟨by rw[aB,z4s];simp;omega,z3o fun _ b _=>?_⟩
  have:=(b (m:Int) (by simp)).2
  omega
 ·refine⟨by simp,z3o fun a _ _=>?_⟩
  simp at a
  omega
 ·refine⟨by rw[aB,z4s,z4s];simp;omega,z3o fun a _ c=>?_⟩
  cases hw:w with
  |nil=>rw[hw]at hl;simp at hl;omega
  |cons x r=>
   rw[hw]at a c hl
   cases r with
   |nil=>simp[iW]at a;omega
   |cons y r=>
    rw[aO]at c
    exact c.2.2 (y:Int) (by simp[iW]) (y:Int) (by simp[iW]) rfl
 ·refine⟨by rw[aB,z4s];simp;omega,z3o fun _ b _=>?_⟩
  have:=(b (-1) (by simp)).1
  omega
theorem y9I(w:List Nat):w.map nD=(iW w).map .int:=y8g w
theorem cut_m1{w:List Nat}:y3b (some (thD w)) (some none) (some (some (-1)))=some ((iW (w.take (w.length - 1))).map .int):=by
 show some (z6G (w.map nD) none (some (-1)))=_
 unfold z6G
 rw[x0R,show HT.sIx (w.map nD).length 0 none=0 from rfl,List.drop_zero,Nat.sub_zero,ao,←cE,y9I]
theorem cut_1{w:List Nat}:y3b (some (thD w)) (some (some 1)) (some none)=some ((iW w.tail).map .int):=by
 show some (z6G (w.map nD) (some ((1:Nat):Int)) none)=_
 rw[y1z,←cP,←y9I,eJ]
theorem cut_12{w:List Nat}:y3b (some (thD w)) (some (some 1)) (some (some 2))=some ((iW (w.tail.take 1)).map .int):=by
 show some (z6G (w.map nD) (some ((1:Nat):Int)) (some ((2:Nat):Int)))=_
 have:z6G (w.map nD) (some ((1:Nat):Int)) (some ((2:Nat):Int))=((w.map nD).drop 1).take 1:=by
  cases w with
  |nil=>rfl
  |cons a r=>
   cases r with
   |nil=>rfl
   |cons b r=>
    unfold z6G
    have h1:HT.sIx ((a::b::r).map nD).length 0 (some ((1:Nat):Int))=1:=by
     simp[HT.sIx]
    have h2:HT.sIx ((a::b::r).map nD).length ((a::b::r).map nD).length (some ((2:Nat):Int))=2:=by
     simp[HT.sIx]
    rw[h1,h2]
 rw[this,←cP,←cE,y9I,eJ]
theorem y2V{a b:List Int}(h:a.length+b.length≤1000000):catSO (some (.lst (a.map .int))) (some (.lst (b.map .int)))=some ((a++b).map .int):=by
 show(if(a.map D.int).length+(b.map D.int).length≤sizeLine then some (a.map D.int++b.map D.int)else none)=_
 rw[if_pos (z1A (by simpa using h)),aR]
theorem y9Z(o:List Int):z4j (some (o.map D.int))=some (o.map D.int):=z4u (z9B o)
def badE:DE:=mkL (z0j [(z0u (z7S (z0b 3) z1a (z2A (d1 x1S (dC (.int 1)))))),(z0u (z7Q (z0b 3) (mkL (z0j [(d2 ixD (z0b 3) (dC (.int 0)))])))),(z0u (z7Q (mkL (z7S (z0b 3) (z2A (dC (.int 1))) z1a)) (mkL (z0j [(z0b 1)])))),(z0u (z0j [])),(z0u (z7Q (mkL (z7S (z0b 3) (z2A (dC (.int 1))) (z2A (dC (.int 2))))) (mkL (z7S (z0b 3) (z2A (dC (.int 1))) z1a)))),(z0u (z7Q (mkL (z0j [(d1 x1S (dC (.int 1)))])) (mkL (z7S (z0b 3) (z2A (dC (.int 1))) z1a))))])
theorem bad_ev{m:Nat}{w:List Nat}(h0:0<w.length)(hl:w.length≤100){o4 o5 o6 o7 o8 o9 o10 e0 e2:Option D}:badE [e0,some (.int (m:Int)),e2,some (sD w),o4,o5,o6,o7,o8,o9,o10]=some (.lst ((badL m w).map fun l=>.lst (l.map .int))):=by
 have ix:ixD (sD w) (.int 0)=some (.int ((w.headD 0:Nat):Int)):=by
  have:=ix_sc (th:=w) (k:=0) h0
  rw[show w.headD 0=w.getD 0 0 by cases w <;> rfl]
  exact this
 have l1:∀x:Int,D.lst [.int x] = .lst ([x].map .int):=fun _=>rfl
 have sw:sD w = .scr (iW w):=rfl
 have z1:(iW w).length≤100:=by rw[z4s];exact hl
 have z2:(iW w.tail).length≤100:=by rw[z4s,List.length_tail];omega
 have z3:(iW (w.tail.take 1)).length≤100:=by rw[z4s,bZ];omega
 have c1:=catS_rl (ns:=iW w) (o:=[((w.headD 0:Nat):Int)]) (by simp;omega)
 have c2:=y2V (a:=iW w.tail) (b:=[(m:Int)]) (by simp;omega)
 have c3:=y2V (a:=iW (w.tail.take 1)) (b:=iW w.tail) ⋯
 have c4:=y2V (a:=[-1]) (b:=iW w.tail) (by simp;omega)
 rw[←sw]at c1
 have fn:z4j (some [])=some []:=rfl
 have f5:z4j (some (D.int (-1)::(iW w.tail).map D.int))=some (D.int (-1)::(iW w.tail).map D.int):=y9Z (-1::iW w.tail)
 simp! only[badE,cut_sc,ix,cut_m1,cut_1,cut_12,l1,c1,c2,c3,c4,y9Z,fn,f5]
 rfl
theorem kS_mem{t:Str}(h:t∈(["plain", "ahead", "rest"]:List Str)):∃k<3,t=kS k:=by
 have:t = "plain" ∨ t = "ahead" ∨ t = "rest" := by simpa using h
 rcases this with rfl | rfl | rfl
 ·exact⟨0,by omega,rfl⟩
 ·exact⟨1,by omega,rfl⟩
 ·exact⟨2,by omega,rfl⟩
theorem law_true(ns:List Int)(hns:ns.length≤63):y5d [.scr ns]=some (.bl true):=by
 refine z0z rfl ?_
 obtain⟨c0,e0⟩:=z9a ns 0
 have e0:z0p [.scr ns,.int 0]=some (.int c0):=e0
 obtain⟨c1,e1⟩:=z9a ns 1
 have e1:z0p [.scr ns,.int 1]=some (.int c1):=e1
 obtain⟨c2,e2⟩:=z9a ns 2
 have e2:z0p [.scr ns,.int 2]=some (.int c2):=e2
 obtain⟨a,ea,ha⟩:=z3I (x:=c0) (n:=6) ⋯
 have m6:z3U (.int c0) (.int 6)=some (.int (a:Int)):=by rw[z2n ⋯];exact congrArg _ (congrArg _ ea)
 obtain⟨m1,hm1⟩:∃m:Nat,m=1+a:=⟨_,rfl⟩
 have mm:1+(a:Int)=(m1:Int):=by omega
 obtain⟨_,et,T1,rfl,F1⟩:=x1o ns hns m1 ⋯
 have v432:z8h (.int c0) (.int 432)=some (.int (c0 / 432)):=z4X ⟨by omega,by omega⟩
 have w432:z3U (.int (c0 / 432)) (.int 6)=some (.int (c0 / 432 % 6)):=z2n ⋯
 have v2592:z8h (.int c0) (.int 2592)=some (.int (c0 / 2592)):=z4X ⟨by omega,by omega⟩
 simp_all! only[g_law,e0,m6,mm,et,v432,w432]
 refine z0G (I:=fun s=>∃(m:Nat) (T:LB),s=[some (.sh (.scr ns)),some (.sh (.int (m:Int))),some (.sh (z0q T)),none,none,none,none,none,none,none,none]∧Full m T∧0<m∧m≤7) ?_ ?_
 ·by_cases hb:c0 / 432 % 6=1
  ·obtain⟨_,eo,P,rfl,hP⟩:=y0H c1 7 ⋯
   have eo:z1B [.int c1,.int 7]=some (thD P):=eo
   obtain⟨_,es,T,rfl,F⟩:=y8i (n:=7) (.inl rfl) hP (c0 / 2592)
   simp_all! only[e0,e1,hb,eo,v2592,es,z0c]
   exact⟨_,rfl,7,T,rfl,F,by omega,by omega⟩
  ·have hb':decide (c0 / 432 % 6=1)=false:=decide_eq_false hb
   simp_all! only[hb',z0c]
   exact⟨_,rfl,m1,T1,rfl,F1,by omega,by omega⟩
 rintro s ⟨m,T,rfl,F,h0,h7⟩
 obtain⟨_,ew,w,rfl,hp⟩:=y0H c2 m ⋯
 have hwl:=z1h hp
 have cp:=y7Q F.sq (show m≤1000 by omega)
 have tl:∀W:List Nat,D.lst (W.map nD)=thD W:=fun _=>rfl
 simp_all! only[e2,ew,ev_fz,fz_th,cp,y9q,z1U,tl,aj]
 refine pin_is (fun s=>∃o5 o6 o7,s=[some (.sh (.scr ns)),some (.sh (.int (m:Int))),some (.sh (z0q T)),some (.sh (sD w)),some (.sh (.lst [z0q T,sD w])),o5,o6,o7,none,none,none]) ⟨_,_,_,rfl⟩ ?_ ?_
 ·rintro t ht s ⟨o5,o6,o7,rfl⟩
  obtain⟨k,hk,rfl⟩:=kS_mem ht
  obtain⟨b,q,o,be,hf,po,bo⟩:=best_eq F h0 (show m≤8 by omega) hk hp
  obtain⟨L,lh,lc⟩:=lhad_eq F h0 (show m≤8 by omega) hk
  have le:=led_eq F (show m≤900 by omega) h0 po hk
  rw[bo]at le
  have io:=y5J (show m≤30 by omega) po
  have wh:=y3F (n:=(b:Int))
  have h40:atI [z0q T,sD w] 0=some (z0q T):=rfl
  have h41:atI [z0q T,sD w] 1=some (sD w):=rfl
  have i0:∀e:D,atI [D.int (b:Int),e] 0=some (.int (b:Int)):=fun _=>rfl
  have i1:∀e:D,atI [D.int (b:Int),e] 1=some e:=fun _=>rfl
  have it:isF "tuple" (.tup [.int (b:Int),thD o])=true:=rfl
  have nb:neD (.int (b:Int)) (.int (b:Int))=some (.bl false):=y8n okN_int ⋯
  have n2:(!decide ((([D.int (b:Int),thD o].length:Nat):Int)=2))=false:=rfl
  have db:(!decide ((b:Int)=(b:Int)))=false:=by simp
  have oh:okN 3 (.lst [z0q T,sD w]):=y9u fun d hd=>by
   have:d=z0q T∨d=sD w:=by simpa using hd
   rcases this with rfl | rfl
   ·exact okN_tab T
   ·exact okN_up (okN_sc w) ⋯
  have nh:neD (.lst [z0q T,sD w]) (.lst [z0q T,sD w])=some (.bl false):=y8n oh ⋯
  have ol:=z1h po
  have ap:apT 6 (z0b 1) [some (.sh (.scr ns)),some (.sh (.int (m:Int))),some (.sh (z0q T)),some (.sh (sD w)),some (.sh (.lst [z0q T,sD w])),some (.sh (.str (kS k))),some (.sh (.tup [.int (b:Int),thD o])),some (.ow (thD L)),none,none,none]=some (.nx [some (.sh (.scr ns)),some (.sh (.int (m:Int))),some (.sh (z0q T)),some (.sh (sD w)),some (.sh (.lst [z0q T,sD w])),some (.sh (.str (kS k))),some (.sh (.tup [.int (b:Int),.lst (o.map nD++[.int (m:Int)])])),some (.ow (thD L)),none,none,none]):=by
   rw[apT_is (b:=(b:Int)) (o:=o) (n:=(m:Int)) rfl rfl ⋯ ⋯]
   have k2:=y4C (y9O T)
   have k4:=y4C (x1n T w)
   show some (Out.nx [some (.sh (.scr ns)),some (.sh (.int (m:Int))),z5U (some (.sh (z0q T))),some (.sh (sD w)),z5U (some (.sh (.lst [z0q T,sD w]))),some (.sh (.str (kS k))),some (.sh (.tup [.int (b:Int),.lst (o.map nD++[.int (m:Int)])])),some (.ow (thD L)),none,none,none])=_
   rw[k2,k4]
  obtain⟨E,hE⟩:∃E,E=D.lst (o.map nD++[.int (m:Int)]):=⟨_,rfl⟩
  rw[←hE]at ap
  have cx:∀p5 p6:Option D,z1C (some (w.map nD)) (z1N (z0D (d2 inD (z0b 11) (z0b 7))) (z0b 11) [some (.scr ns),some (.int (m:Int)),some (z0q T),some (sD w),some (.lst [z0q T,sD w]),p5,p6,some (thD L),none,none,none])=some ((w.filter (z8z T m k)).map nD):=fun p5 p6=>by
   refine z5H (enc:=nD) (xs:=w) (z8z T m k) nD ⋯ (fun x hx=>?_) fun x _ _=>by simp! only[]
   have ct:=lc x (z3y hp x hx)
   simp! only[nD,x3T,ct]
  rw[hf]at cx
  have a0:atI ((b::q).map nD) 0=some (.int (b:Int)):=by rw[aH];exact y3r
  obtain⟨Q,hQ⟩:∃Q,Q=(b::q).map nD:=⟨_,rfl⟩
  rw[←hQ]at cx a0
  simp_all! only[h40,h41,be,lh,it,i0,i1,n2,db,wh,io,le,nb,ap,y6v,cx,a0,nh,z0c]
  exact⟨_,rfl,_,_,_,rfl⟩
 ·rintro s ⟨o5,o6,o7,rfl⟩
  obtain⟨k,ek,hk⟩:=z3I (x:=c0 / 6) (n:=3) ⋯
  have v6:z8h (.int c0) (.int 6)=some (.int (c0 / 6)):=z4X ⟨by omega,by omega⟩
  have w6:z3U (.int (c0 / 6)) (.int 3)=some (.int (k:Int)):=by rw[z2n ⋯];exact congrArg _ (congrArg _ ek)
  obtain⟨j,ej,hj⟩:=z3I (x:=c0 / 18) (n:=6) ⋯
  have v18:z8h (.int c0) (.int 18)=some (.int (c0 / 18)):=z4X ⟨by omega,by omega⟩
  have w18:z3U (.int (c0 / 18)) (.int 6)=some (.int (j:Int)):=by rw[z2n ⋯];exact congrArg _ (congrArg _ ej)
  obtain⟨i,ei,hi⟩:=z3I (x:=c0 / 108) (n:=6) ⋯
  have v108:z8h (.int c0) (.int 108)=some (.int (c0 / 108)):=z4X ⟨by omega,by omega⟩
  have w108:z3U (.int (c0 / 108)) (.int 6)=some (.int (i:Int)):=by rw[z2n ⋯];exact congrArg _ (congrArg _ ei)
  have ik:atI [D.str "plain",.str "ahead",.str "rest"] (k:Int)=some (.str (kS k)):=by
   have:k=0∨k=1∨k=2:=by omega
   rcases this with rfl | rfl | rfl <;> rfl
  obtain⟨u,iu,hu⟩:∃u,atI [D.str "",.str "Plain",.str "aheads",.str "rest ",.str "left",.str "chair"] (j:Int)=some (.str u)∧u∈z7R:=by
   have:j=0∨j=1∨j=2∨j=3∨j=4∨j=5:=by omega
   rcases this with rfl | rfl | rfl | rfl | rfl | rfl
   ·exact⟨_,rfl,by simp[z7R]⟩
   ·exact⟨_,rfl,by simp[z7R]⟩
   ·exact⟨_,rfl,by simp[z7R]⟩
   ·exact⟨_,rfl,by simp[z7R]⟩
   ·exact⟨_,rfl,by simp[z7R]⟩
   ·exact⟨_,rfl,by simp[z7R]⟩
  have hbl:i<(badL m w).length:=hi
  obtain⟨l,hl⟩:∃l,l=(badL m w)[i]:=⟨_,rfl⟩
  have ib:atI ((badL m w).map fun l=>D.lst (l.map .int)) (i:Int)=some (.lst (l.map .int)):=z2q (by rw[aG,am hbl,←hl];rfl)
  have hlb:=bad_all h0 ⋯ hp l (by rw[hl];exact bM hbl)
  have r1:=ref_ord (x1w F h0 (show m≤8 by omega) hk hlb.1 hlb.2)
  have r2:=y9d (y4f F h0 (show m≤8 by omega) hu (d:=.lst (l.map .int)))
  have r3:=y9d (y4f F h0 (show m≤8 by omega) hu (d:=sD w))
  have bv:=fun(o4 o5 o6 o7 o8 o9 o10 e0 e2:Option D)=>bad_ev (m:=m) (w:=w) ⋯ ⋯ (o4:=o4) (o5:=o5) (o6:=o6) (o7:=o7) (o8:=o8) (o9:=o9) (o10:=o10) (e0:=e0) (e2:=e2)
  have h40:atI [z0q T,sD w] 0=some (z0q T):=rfl
  have ll:z6Q [.lst (l.map .int)]=some (l.map .int):=rfl
  have no:neD (.str "order") (.str "order")=some (.bl false):=y2y (by decide +kernel)
  have nu:neD (.str "unknown") (.str "unknown")=some (.bl false):=y2y (by decide +kernel)
  have qu:eqD (.str "unknown") (.str "unknown")=some (.bl true):=z2u (by decide +kernel) (by decide +kernel) (by decide +kernel)
  obtain⟨B,hB⟩:∃B,B=(badL m w).map fun l=>D.lst (l.map .int):=⟨_,rfl⟩
  rw[←hB]at bv ib
  obtain⟨W,hW⟩:∃W,W=l.map D.int:=⟨_,rfl⟩
  rw[←hW]at ib r1 r2 ll
  show hol (z0E _ (z0E _ (z0E (z5j 9 badE) _)) _) _
  simp_all! only[e0,v6,w6,ik,v18,w18,iu,bv,v108,w108,ib,h40,ll,r1,no,r2,nu,y9q,z1U,tl,ev_fz,fz_th,aj,r3,qu,z0c]
end Prg
open PySem PySem.W PyProof.Rows
set_option maxRecDepth 100000 in
set_option maxHeartbeats 0 in
theorem PySem.Challenge.cw_askorder_k46_best_for_a_wish_holds : PySem.Challenge.rw_askorder_k46_best_for_a_wish.Holds := by
 w_on;o_law;k_head;(case hw=>w_witness2)
 k_fill
 refine Prg.walk (l:=PySem.Challenge.rw_askorder_k46_best_for_a_wish) rfl rfl Prg.law_true (fun w h Y=>PySem.W.kIn_of Y) ?F
 case F=>
  intro w mg fa h KX G hmg
  refine' Prg.all_mk KX G hmg ?iX ?iY ?hV ?jj ?gu ?hX ?jk ?jA ?jK ?h9 ?gR ?jB ?iF ?jR ?ia ?jl ?jm ?iG ?jn ?jC ?jL ?jo ?jp ?jD ?iZ ?i4 ?jq ?gS ?iH ?iI ?iJ ?iK ?i5 ?gM ?iL ?iM ?i6 ?jr ?js ?gT ?gv ?gU ?gW ?gX ?jt ?j5 ?j6 ?c_law ?j7 ?ig ?ju ?fX ?jv ?gB ?jM ?gf ?jE ?e_BadOrder_AskError ?fR ?e_Unknown_AskError ?g5 ?fZ ?gF ?gn ?gg ?gC ?gw ?fV ?f7 ?fY ?f8 ?gx ?gi ?j8 ?i7 ?j9 ?iN ?j0 ?ka ?jS ?jN ?kb ?j1 ?jw ?iO ?jT
  (case j5 | j6 | c_law | j7 | ig | fX | gB | gf | j8 | i7 | j9 | iN | j0 | ka | jS | jN | kb | j1 | jw | iO | jT=>k_is)
  (case iX | iY | hV | jj | gu | hX | jk | jA | jK | h9 | gR | jB | iF | jR | ia | jl | jm | iG | jn | jC | jL | jo | jp | jD | iZ | i4 | jq | gS | iH | iI | iJ | iK | i5 | gM | iL | iM | i6 | jr | js | gT | gv | gU | gW | gX | jt=>exact⟨_,_,by k_is,L2.fun_mk (by k_is) (by k_is) (by k_is)⟩)
  (case ju | jv | jM | jE=>first | k_exc | kernel_rfl!)
  (case e_BadOrder_AskError | fR | e_Unknown_AskError | g5 | fZ | gF | gn | gg | gC | gw | fV | f7 | fY | f8 | gx | gi=>first | kts_exm | k_is | kernel_rfl!)
