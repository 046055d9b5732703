import PyProof.Rows.All
import Wide.All
import OpenK.AllK
import Wide.FinOn
import Lean
import PyProof.EqAt
import PyProof.EqKinds
import PyProof.TupleCall
import PySem.Challenge.RW_askorder_k78_whole_shares
set_option Elab.async false
set_option linter.all false
set_option maxRecDepth 100000
open PySem.W renaming Frag → aa, nsIn → aO, mg_none_of → aQ, findIn → aU, kia_one → bC, fnOf → bK, keepIn → bV, mroIn → b6, specialIn → cb, kitOne → cr, takesIn → cJ, codeIn → df, InstAt → dg, methodObj → dE, kitx_list → dF, plainGet → dM, instObj → dP, findObj → dQ, OpenLaw → dR, lookIn → dX, mg_of → d8, excIn → d9, clsIn → eh, cellsFrom_some → eI, looks_findIn → eU, callWith_K → ff, plainOver → fy, hasDictIn → fz
open List renaming getElem?_eq_getElem → ac, range → ad, mem_range → ae, mem_cons_of_mem → ag, mem_cons_self → ah, mem_cons → ai, mem_filter → aj, replicate → ak, length_map → am, getD_eq_getElem?_getD → au, nodup_cons → av, mem_singleton → ax, mem_append → ay, size_toArray → aD, contains_iff_mem → aE, length_append → aF, map_cons → aG, map_append → aI, getD → aJ, mem_map → aK, map_map → aL, getElem?_map → aN, append_nil → aP, getElem_mem → aR, mem_append_right → aT, all_eq_true → aV, length_range → aW, getElem?_eq_some_iff → aX, length_cons → aY, append_assoc → aZ, ext_getElem → bb, nodup_append → bf, perm_ext_iff_of_nodup → bg, pairwise_cons → bh, nodup_nil → bi, mem_iff_getElem → bj, length_eraseIdx → bn, getElem?_set_ne → bp, not_mem_nil → bq, nodup_range → br, getElem?_append_left → bv, drop_eq_getElem_cons → bx, replicate_succ → bA, map_congr_left → bB, length_filter_le → bE, pairwise_map → bF, pairwise_lt_range → bG, filter_cons → bL, mem_of_mem_eraseIdx → bM, length_eq_zero_iff → bP, flatten_cons → bQ, filter_congr → bR, length_pos_iff → bS, filterMap_cons → bT, getElem?_append_right → bY, getElem?_eq_none → bZ, range_succ → b7, getElem?_replicate → ca, sum_append → cc, sum_cons → ce, reverse_reverse → cg, drop_length → ci, pairwise_iff_getElem → cj, find?_cons → ck, ne_nil_of_mem → cq, reverse_cons → cv, getElem?_set → cw, any_map → cy, any_eq_false → cz, pairwise_flatten → cF, eraseIdx_sublist → cG, lookup_cons → cH, getElem_map → cI, any_cons → cK, mem_append_left → cM, nil_append → cP, length_set → cQ, map_nil → cS, contains_eq_any_beq → cZ, mem_flatten → c4, range_succ_eq_map → c9, getElem?_set_self → dc, filter_eq_nil_iff → de, length_singleton → di, length_replicate → dl, perm_cons_erase → dq, getElem?_of_mem → du, getElem?_range → dA, filter_eq_self → dB, set_cons_zero → dH, set_cons_succ → dI, map_replicate → dJ, filter_append → dL, map_set → dN, length_take → dW, range' → dY, eq_nil_of_length_eq_zero → dZ, of_mem_zip → d3, mem_zipIdx_iff_getElem? → d4, length_nil → d5, foldr_cons → d6, idxOf_lt_length_of_mem → eD, length_eraseIdx_of_lt → eF, sublist_append_right → eK, getElem?_eq_none_iff → eL, getElem?_cons_succ → eV, filter_cons_of_pos → eW, filter_cons_of_neg → eX, eraseIdx_cons_succ → eY, take_of_length_le → eZ, length_pos_of_mem → e6, all_map → e7, take_append_drop → fu, mem_of_getElem? → fB, take_succ_cons → fE, mem_filterMap → fF, foldl → fG
open Nat renaming le_refl → ao, ne_of_lt → aC, lt_of_lt_of_le → aM, le_trans → ba, lt_succ_of_lt → bI, lt_irrefl → bN, zero_le → bX, le_of_succ_le → b8, ne_of_gt → cA, le_succ → cN, le_of_lt → cT, mod_two_eq_zero_or_one → cV, lt_of_le_of_lt → cW, lt_succ_self → c7, le_add_right → c8, lt_trichotomy → dS, le_succ_of_le → dU, gcd → eE, not_lt → eJ, lt_trans → fg, lt_or_ge → fq, le_of_eq → ft, pow_le_pow_right → fD
open Option renaming bind_some → aq, map_some → bH, bind_none → bU, isSome_iff_exists → cX, getD_some → cY, isSome_map → dG, isSome_some → fA
open Bool renaming false_ne_true → ar, and_eq_true → aH, and_eq_true_iff → be, or_eq_true → cR, not_eq_true → c5, false_and → dv, and_false → dz, or_eq_true_iff → dD, not_eq_true' → dO, not_false → eG, or_false → eO, not_true → eP, false_or → eQ, and_true → eS, true_or → e9
open Array renaming getElem?_eq_getElem → aS, length_toList → b9, getD_eq_getD_getElem? → cf, getElem?_toList → cE, getElem?_eq_some_iff → cU, toList_push → fH
open Int renaming mul_nonneg → bc, mul_pos → bJ, zero_add → bW, toNat_natCast → cB, mul_zero → cC, mul_comm → cD, mul_le_mul_of_nonneg_right → cL, le_refl → cO, zero_mul → dh, mul_eq_zero → dm, neg_mul → d7, mul_le_mul → eM, mul_neg_of_pos_of_neg → eN, pos_of_mul_pos_left → e8, add_zero → fw
noncomputable abbrev PySem.W.Fast.tw5392148092076454160:=PySem.Challenge.pw_askorder_k78_whole_shares
theorem PySem.W.Fast.te5392148092076454160:PySem.Challenge.pw_askorder_k78_whole_shares=PySem.W.Fast.tw5392148092076454160:=rfl
def PySem.W.Fast.tw3886126391231111997:=0
def PySem.W.Fast.tw16521588277357851494:=0
def PySem.W.Fast.tw3243258155926969532:=0
def PySem.W.Fast.tw7768234606926191565:=0
def PySem.W.Fast.tw12725186180557919181:=0
def PySem.W.Fast.tw17882756935416410365:=0
def PySem.W.Fast.tw6176334808387094345:=0
def PySem.W.Fast.tw9712990726120649024:=0
def PySem.W.Fast.tw5194397830421150641:=0
def PySem.W.Fast.tw17608226994283443811:=0
def PySem.W.Fast.tw14108002620801474648:=0
def PySem.W.Fast.tw15648510609166773906:=0
def PySem.W.Fast.tw12567694965300262903:=0
def PySem.W.Fast.tw18339383507047997554:=0
namespace L2
open PySem PySem.Spec PyProof.Rows
abbrev Key:=Sum Int Str
def y2J:Key->Value->Bool
 |.inl k,v=>Value.isInt k v
 |.inr x,v=>Value.isStrOf x v
def keyH(w:World):Key->Int
 |.inl k=>hashInt k
 |.inr x=>hashStr w x
theorem z0N:∀{k:Key} {v:Value},y2J k v=true->(∃i t,k=Sum.inl i∧v=Value.int i t)∨(∃x t,k=Sum.inr x∧v=Value.str x t)
 |.inl i,v,h=>by
  obtain⟨t,e⟩:=Value.isInt_shape (k:=i) (v:=v) h
  exact .inl ⟨i,t,rfl,e⟩
 |.inr x,v,h=>by
  obtain⟨t,e⟩:=Value.isStrOf_shape (x:=x) (v:=v) h
  exact .inr ⟨x,t,rfl,e⟩
theorem y9k(i:Int)(t:Tok):y2J (.inl i) (.int i t)=true:=by simp [y2J,Value.isInt]
theorem y6z(x:Str)(t:Tok):y2J (.inr x) (.str x t)=true:=by simp [y2J,Value.isStrOf]
theorem key_ll(a b:Int):decide ((Sum.inl a:Key)=Sum.inl b)=(a==b):=by
 by_cases e:a=b
 ·subst e;simp
 ·have h:¬ (Sum.inl a:Key)=Sum.inl b:=fun q=>e (Sum.inl.inj q)
  rw [decide_eq_false h]
  exact(beq_eq_false_iff_ne.mpr e).symm
theorem key_rr(a b:Str):decide ((Sum.inr a:Key)=Sum.inr b)=decide (a=b):=by
 by_cases e:a=b
 ·subst e;simp
 ·have h:¬ (Sum.inr a:Key)=Sum.inr b:=fun q=>e (Sum.inr.inj q)
  rw [decide_eq_false h,decide_eq_false e]
theorem key_lr(a:Int)(b:Str):decide ((Sum.inl a:Key)=Sum.inr b)=false:=decide_eq_false (fun q=>nomatch q)
theorem key_rl(a:Str)(b:Int):decide ((Sum.inr a:Key)=Sum.inl b)=false:=decide_eq_false (fun q=>nomatch q)
def z0Z(prog:Program)(w:World):PySem.KeyKind prog w Key where
 is:=y2J
 hash:=keyH w
 inj:=fun v a b ha hb=>by
  rcases z0N ha with⟨i,t,rfl,rfl⟩ | ⟨x,t,rfl,rfl⟩
  ·rcases z0N hb with⟨j,u,rfl,e⟩ | ⟨y,u,rfl,e⟩
   ·injection e with e1 _;rw [e1]
   ·exact nomatch e
  ·rcases z0N hb with⟨j,u,rfl,e⟩ | ⟨y,u,rfl,e⟩
   ·exact nomatch e
   ·injection e with e1 _;rw [e1]
 byValue:=fun k v h=>by
  rcases z0N h with⟨i,t,rfl,rfl⟩ | ⟨x,t,rfl,rfl⟩ <;> rfl
 pyHash:=fun hv h=>by
  rcases z0N hv with⟨i,t,rfl,rfl⟩ | ⟨x,t,rfl,rfl⟩
  ·exact wpAny_pyHash_int h
  ·exact wpAny_pyHash_str h
 eqBool:=fun hu hv h=>by
  rcases z0N hu with⟨i,t,rfl,rfl⟩ | ⟨x,t,rfl,rfl⟩
  ·rcases z0N hv with⟨j,u,rfl,rfl⟩ | ⟨y,u,rfl,rfl⟩
   ·rw [key_ll]at h;exact wpAny_eqBool_int h
   ·rw [key_lr]at h;exact SeqAt.EqAt.int_str i t y u _ _ _ _ h
  ·rcases z0N hv with⟨j,u,rfl,rfl⟩ | ⟨y,u,rfl,rfl⟩
   ·rw [key_rl]at h;exact SeqAt.EqAt.str_int x t j u _ _ _ _ h
   ·rw [key_rr]at h;exact wpAny_eqBool_str h
 «strs»:=fun k x t v h=>by
  rcases z0N h with⟨i,u,rfl,e⟩ | ⟨y,u,rfl,e⟩
  ·exact nomatch e
  ·injection e with e1 _
   subst e1
   cases v <;> rfl
theorem y2L(prog:Program)(w:World)(i:Int)(t:Tok):(z0Z prog w).is (.inl i) (.int i t)=true:=y9k i t
theorem y2S(prog:Program)(w:World)(x:Str)(t:Tok):(z0Z prog w).is (.inr x) (.str x t)=true:=y6z x t
end L2
namespace L2
open PySem PySem.Spec PyProof.Rows
inductive V where
 |non | bl (b:Bool) | int (i:Int) | str (x:Str) | byt (b:Array UInt8) | flt (b:UInt64) | ref (a:Addr) | ty (n:String)
 deriving DecidableEq
def RelV:V->Value->Prop
 |.non,u=>u=Value.none
 |.bl b,u=>u=Value.bool b
 |.int i,u=>∃t,u=Value.int i t
 |.str x,u=>∃t,u=Value.str x t
 |.byt b,u=>∃t,u=Value.bytes b t
 |.flt b,u=>∃t,u=Value.float b t
 |.ref a,u=>u=Value.ref a
 |.ty n,u=>u=Value.type n
abbrev Vals:List V->List Value->Prop:=Paired RelV
theorem Vals.length{xs:List V}{us:List Value}(r:Vals xs us):xs.length=us.length:=Paired.length r
theorem Vals.get:∀{xs:List V} {us:List Value} {i:Nat} {x:V},Vals xs us->xs[i]? = some x->∃u,us[i]? = some u∧RelV x u
 |_,_,_,_,.nil,e=>by simp at e
 |_,_,0,_,.cons r _,e=>by simp at e;subst e;exact⟨_,rfl,r⟩
 |_,_,i+1,x,.cons _ t,e=>by
  obtain⟨u,h1,h2⟩:=Vals.get (i:=i) (x:=x) t (by simpa using e)
  exact⟨u,by simpa using h1,h2⟩
theorem Vals.set{x:V}{u:Value}(r:RelV x u):∀{xs:List V} {us:List Value} (i:Nat),Vals xs us->Vals (xs.set i x) (us.set i u)
 |_,_,_,.nil=>.nil
 |_,_,0,.cons _ t=>.cons r t
 |_,_,i+1,.cons q t=>.cons q (Vals.set r i t)
theorem Vals.append:∀{xs ys:List V} {us ws:List Value},Vals xs us->Vals ys ws->Vals (xs++ys) (us++ws)
 |_,_,_,_,.nil,s=>s
 |_,_,_,_,.cons r t,s=>.cons r (Vals.append t s)
theorem Vals.take:∀{xs:List V} {us:List Value} (n:Nat),Vals xs us->Vals (xs.take n) (us.take n)
 |_,_,0,_=>.nil
 |_,_,_+1,.nil=>.nil
 |_,_,n+1,.cons r t=>.cons r (Vals.take n t)
theorem Vals.drop:∀{xs:List V} {us:List Value} (n:Nat),Vals xs us->Vals (xs.drop n) (us.drop n)
 |_,_,0,r=>r
 |_,_,_+1,.nil=>.nil
 |_,_,n+1,.cons _ t=>Vals.drop n t
def RelO:Option V->Option Value->Prop
 |some v,some u=>RelV v u
 |none,none=>True
 |_,_=>False
def KV{κ:Type}:List (κ×V)->List (κ×Value)->Prop:=Paired fun(p:κ×V) (q:κ×Value)=>p.1=q.1∧RelV p.2 q.2
def kV:Key->V
 |.inl i=>.int i
 |.inr x=>.str x
inductive HO where
 |lst (xs:List V)
 |tup (xs:List V)
 |dK (kvs:List (Key×V)) | dT (kvs:List (List Key×V))
 |set (S:Int->Bool) (n:Nat)
 |ins (C dx:Addr) (fs:List (Str×V))
 |own (x:Addr)
 |xd (fs:List (Str×V))
 |met (f x:Addr)
 |rng (lo hi:Int)
 |frz (o:Obj) (u:HO)
 |tbl (ps:Array Value)
 |ext (φ:Heap->Prop)
abbrev Hp:=Addr->Option HO
def upd(H:Hp)(a:Addr)(o:HO):Hp:=fun b=>if b=a then some o else H b
theorem z0m{H:Hp}{a:Addr}{o:HO}:upd H a o a=some o:=by unfold upd;rw [if_pos rfl]
theorem z0q{H:Hp}{a b:Addr}{o:HO}(h:b≠a):upd H a o b=H b:=by unfold upd;rw [if_neg h]
theorem ne_of{H:Hp}{a b:Addr}{o u:HO}(h:H a=some o)(h':H b=some u)(d:o≠u):a≠b:=by
 intro e;subst e;rw [h]at h';exact d (Option.some.inj h')
theorem z1e{H:Hp}{a b:Addr}{o:HO}(h:H a=some o)(h':H b=none):a≠b:=by
 intro e;subst e;rw [h]at h';cases h'
section
variable(P:Program)(w:World)
def TupN(h:Heap)(a:Addr)(items:Array Value):Prop:=∃o,h.get? a=some o∧(o.cls = .type "tuple" ∧ o.dict=none)∧∃n,o.data = .seq items n
theorem TupN.is{h:Heap}{a:Addr}{items:Array Value}(x:TupN h a items):IsTup h a items:=let⟨o,e,c,n⟩:=x;⟨o,e,c.1,n⟩
theorem TupN.lt{h:Heap}{a:Addr}{items:Array Value}(x:TupN h a items):a<h.objs.size:=x.is.lt
theorem TupN.new(h:Heap)(items:Array Value):TupN (h.push { cls:=.type "tuple",data:=.seq items }) h.objs.size items:=⟨_,Heap.get?_push_size _ rfl,⟨rfl,rfl⟩,_,rfl⟩
def ObjOk(H:Hp)(h:Heap)(a:Addr):HO->Prop
 |.lst xs=>xs.length≤sizeLine∧∃(its:List Value) (n:Nat),Vals xs its∧h.get? a=some { cls:=.type "list",data:=.seq its.toArray n }
 |.tup xs=>xs.length≤sizeLine∧∃its:List Value,Vals xs its∧TupN h a its.toArray
 |.dK kvs=>kvs.length≤sizeLine∧(a==sysModules)=false∧∃vs,KV kvs vs∧h.DictOf (z0Z P w) a vs
 |.dT kvs=>kvs.length≤sizeLine∧(a==sysModules)=false∧∃xs:List (List Key×Addr×Value),
   Paired (fun(p:List Key×V) (q:List Key×Addr×Value)=>p.1=q.1∧H q.2.1=some (.tup (p.1.map kV))∧RelV p.2 q.2.2) kvs xs ∧
   ∃o es ep,h.get? a=some o∧o.ExactDict∧o.data = .dict es ep∧es.toList=xs.map (entryOfKey (tupleKind (z0Z P w)))∧(xs.map (·.1)).Nodup
 |.set S n=>h.SetOf (intKind P w) a S n
 |.ins C dx fs=>H dx=some (.own a)∧fs.length≤1000∧dx≠a∧h.get? a=some (dP C dx) ∧
   ∃mA,h.Ns1 dx mA∧(∀f,RelO (fs.lookup f) (mA f))∧PySem.Within mA (fs.map (·.1))
 |.own _=>∃o,h.get? a=some o
 |.xd fs=>∃mA,h.Ns1 a mA∧∀f,RelO (fs.lookup f) (mA f)
 |.rng lo hi=>∃t u v,h.get? a=some { cls:=.type "range",data:=.fields #[.int lo t,.int hi u,.int 1 v] }
 |.frz o u=>h.get? a=some o∧ObjOk H h a u
 |.tbl ps=>h.get? a=some { cls:=.none,data:=.fields ps }
 |.met f x=>h.get? a=some (dE (.ref f) (.ref x))
 |.ext φ=>φ h∧(∃o,h.get? a=some o)∧∀h1 h2:Heap,φ h1->(∀o,h1.get? a=some o->h2.get? a=some o)->φ h2
def HOk(H:Hp)(h:Heap):Prop:=∀a o,H a=some o->ObjOk P w H h a o
end
section
variable{P:Program}{w:World}{H H':Hp}{h h':Heap}{a:Addr}{o:HO}
theorem ObjOk.lt(x:ObjOk P w H h a o):a<h.objs.size:=by
 cases o with
 |lst xs=>obtain⟨_,_,_,_,e⟩:=x;exact Heap.lt_size e
 |tup xs=>obtain⟨_,_,_,p⟩:=x;exact p.lt
 |dK kvs=>obtain⟨_,_,_,_,o,_,_,e,_⟩:=x;exact Heap.lt_size e
 |dT kvs=>obtain⟨_,_,_,_,o,_,_,e,_⟩:=x;exact Heap.lt_size e
 |set S n=>obtain⟨o,_,_,_,e,_⟩:=x;exact Heap.lt_size e
 |ins C dx fs=>obtain⟨_,_,_,e,_⟩:=x;exact Heap.lt_size e
 |own y=>obtain⟨_,e⟩:=x;exact Heap.lt_size e
 |xd fs=>obtain⟨_,⟨_,_,_,e,_⟩,_⟩:=x;exact Heap.lt_size e
 |rng lo hi=>obtain⟨_,_,_,e⟩:=x;exact Heap.lt_size e
 |frz ob u=>obtain⟨e,_⟩:=x;exact Heap.lt_size e
 |tbl ps=>exact Heap.lt_size (show h.get? a=some _ from x)
 |met f y=>exact Heap.lt_size (show h.get? a=some _ from x)
 |ext φ=>obtain⟨_,⟨_,e⟩,_⟩:=x;exact Heap.lt_size e
theorem Paired.mapP{α β:Type}{F G:α->β->Prop}:∀{l₁:List α} {l₂:List β},Paired F l₁ l₂->(∀a b,F a b->G a b)->Paired G l₁ l₂
 |_,_,.nil,_=>.nil
 |_,_,.cons r t,f=>.cons (f _ _ r) (Paired.mapP t f)
theorem ObjOk.stay(x:ObjOk P w H h a o)(k:∀b u,(b=a∨H b=some (.own a))->h.get? b=some u->h'.get? b=some u)
  (ho:∀b,H b=some (.own a)->H' b=some (.own a)) (ht:∀b xs,H b=some (.tup xs)->H' b=some (.tup xs)):ObjOk P w H' h' a o:=by
 induction o with
 |lst xs=>obtain⟨z,its,n,r,e⟩:=x;exact⟨z,its,n,r,k _ _ (.inl rfl) e⟩
 |tup xs=>obtain⟨z,its,r,ob,e,c⟩:=x;exact⟨z,its,r,ob,k _ _ (.inl rfl) e,c⟩
 |dK kvs=>obtain⟨z,y,vs,r,ob,es,ep,e,c⟩:=x;exact⟨z,y,vs,r,ob,es,ep,k _ _ (.inl rfl) e,c⟩
 |dT kvs=>
  obtain⟨z,y,xs,r,ob,es,ep,e,c⟩:=x
  exact⟨z,y,xs,Paired.mapP r fun p q z=>⟨z.1,ht _ _ z.2.1,z.2.2⟩,ob,es,ep,k _ _ (.inl rfl) e,c⟩
 |set S n=>obtain⟨ob,es,ep,t,e,c⟩:=x;exact⟨ob,es,ep,t,k _ _ (.inl rfl) e,c⟩
 |ins C dx fs=>
  obtain⟨d,z,ne,e,mA,⟨od,es,ep,e2,c⟩,r⟩:=x
  exact⟨ho _ d,z,ne,k _ _ (.inl rfl) e,mA,⟨od,es,ep,k _ _ (.inr d) e2,c⟩,r⟩
 |own y=>obtain⟨ob,e⟩:=x;exact⟨ob,k _ _ (.inl rfl) e⟩
 |xd fs=>obtain⟨mA,⟨od,es,ep,e,c⟩,r⟩:=x;exact⟨mA,⟨od,es,ep,k _ _ (.inl rfl) e,c⟩,r⟩
 |rng lo hi=>obtain⟨t,u,v,e⟩:=x;exact⟨t,u,v,k _ _ (.inl rfl) e⟩
 |frz ob u ih=>obtain⟨e,q⟩:=x;exact⟨k _ _ (.inl rfl) e,ih q⟩
 |tbl ps=>
  have e:h.get? a=some { cls:=.none,data:=.fields ps }:=x
  show h'.get? a=some { cls:=.none,data:=.fields ps }
  exact k a _ (.inl rfl) e
 |met f y=>
  have e:h.get? a=some (dE (.ref f) (.ref y)):=x
  show h'.get? a=some (dE (.ref f) (.ref y))
  exact k a _ (.inl rfl) e
 |ext φ=>obtain⟨p,⟨o,e⟩,st⟩:=x;exact⟨st _ _ p fun o q=>k _ _ (.inl rfl) q,⟨o,k _ _ (.inl rfl) e⟩,st⟩
theorem HOk.lt(x:HOk P w H h)(e:H a=some o):a<h.objs.size:=(x a o e).lt
theorem HOk.fresh(x:HOk P w H h)(e:h.objs.size≤a):H a=none:=by
 cases q:H a with
 |none=>rfl
 |some u=>exact absurd (aM (x.lt q) e) (bN _)
theorem HOk.kept(x:HOk P w H h)(k:∀b u,h.get? b=some u->h'.get? b=some u):HOk P w H h':=fun a o e=>
 (x a o e).stay (fun b u _ q=>k b u q) (fun _ q=>q) fun _ _ q=>q
theorem HOk.laid(x:HOk P w H h)(k:∀b u,h.get? b=some u->h'.get? b=some u)(hp:h.objs.size≤a)(new:ObjOk P w (upd H a o) h' a o):HOk P w (upd H a o) h':=fun b u e=>by
 have hn:=x.fresh hp
 by_cases hb:b=a
 ·subst hb;rw [z0m]at e;cases e;exact new
 ·rw [z0q hb]at e
  exact(x b u e).stay (fun c v _ q=>k c v q) (fun c q=>by rw [z0q (z1e q hn)];exact q) fun c xs q=>by rw [z0q (z1e q hn)];exact q
end
def Rd(H:Hp)(a:Addr)(u:HO):Prop:=H a=some u∨∃o,H a=some (.frz o u)
theorem Rd.ok{P:Program}{w:World}{H:Hp}{h:Heap}{a:Addr}{u:HO}(r:Rd H a u)(x:HOk P w H h):ObjOk P w H h a u:=by
 rcases r with r | ⟨o,r⟩
 ·exact x a u r
 ·obtain⟨_,q⟩:=x a _ r
  exact q
def Mut:Option HO->Prop
 |some (.lst _)=>True
 |some (.dK _)=>True
 |some (.dT _)=>True
 |some (.set _ _)=>True
 |some (.ins _ _ _)=>True
 |some (.ext _)=>True
 |_=>False
section
variable{P:Program}{w:World}{H:Hp}{h h':Heap}{x e:Addr}{o':HO}
theorem HOk.write(ok:HOk P w H h)(mu:Mut (H x))(he:e=x∨H e=some (.own x))(k:∀b u,b≠e->h.get? b=some u->h'.get? b=some u)(heo:∃u,h'.get? e=some u)
  (new:ObjOk P w (upd H x o') h' x o'):HOk P w (upd H x o') h':=fun b u q=>by
 have nown:∀c y,H c=some (.own y)->c≠x:=fun c y r z=>by subst z;rw [r]at mu;exact mu
 have ntup:∀c xs,H c=some (.tup xs)->c≠x:=fun c xs r z=>by subst z;rw [r]at mu;exact mu
 by_cases hb:b=x
 ·subst hb;rw [z0m]at q;cases q;exact new
 ·rw [z0q hb]at q
  by_cases hbe:b=e
  ·have q':H b=some (.own x):=by
    rcases he with z | z
    ·exact absurd (hbe.trans z) hb
    ·rw [hbe];exact z
   rw [q]at q';cases q'
   obtain⟨v,hv⟩:=heo
   exact⟨v,by rw [hbe];exact hv⟩
  ·refine(ok b u q).stay (fun c v hc r=>k c v ?_ r) (fun c r=>by rw [z0q (nown c b r)];exact r) fun c xs r=>by rw [z0q (ntup c xs r)];exact r
   rcases hc with rfl | hc
   ·exact hbe
   ·rintro rfl
    rcases he with z | z
    ·exact nown c b hc z
    ·rw [hc]at z;cases z;exact hb rfl
end
structure Un(fs ex:List Addr)(H H':Hp)(h h':Heap):Prop where
 keep:∀b o,h.get? b=some o->H b=none->b∉fs->b∉ex->h'.get? b=some o
 slot:∀b o,h.get? b=some o->H b=none->b∈fs->b∉ex->∃sl,h'.get? b=some { o with slots:=sl }
 free:∀b o,h.get? b=some o->H b=none->b∉ex->H' b=none
 there:∀b o,h.get? b=some o->b∉ex->∃o',h'.get? b=some o'
 tups:∀b xs,H b=some (.tup xs)->H' b=some (.tup xs)
 frzs:∀b o u,H b=some (.frz o u)->H' b=some (.frz o u)
 tbls:∀b ps,H b=some (.tbl ps)->∃more,H' b=some (.tbl (ps++more))
section
variable{fs fs' ex ex':List Addr}{H H1 H2:Hp}{h h1 h2 h':Heap}{a x e:Addr}{o:HO}
theorem Un.any(u:Un fs ex H H1 h h1){b:Addr}{ob:Obj}(q:h.get? b=some ob)(n:H b=none)(hx:b∉ex):∃sl,h1.get? b=some { ob with slots:=sl }:=by
 by_cases hb:b∈fs
 ·exact u.slot b ob q n hb hx
 ·exact⟨ob.slots,u.keep b ob q n hb hx⟩
theorem Un.kept(k:∀b u,h.get? b=some u->h'.get? b=some u):Un fs ex H H h h':=
 ⟨fun b ob q _ _ _=>k b ob q,fun b ob q _ _ _=>⟨ob.slots,k b ob q⟩,fun _ _ _ n _=>n,fun b ob q _=>⟨ob,k b ob q⟩,fun _ _ q=>q,fun _ _ _ q=>q,fun _ ps q=>⟨#[],by rw [q];simp⟩⟩
theorem Un.refl:Un fs ex H H h h:=Un.kept fun _ _ q=>q
theorem Un.laid(k:∀b u,h.get? b=some u->h'.get? b=some u)(hp:h.objs.size≤a)(hn:H a=none):Un fs ex H (upd H a o) h h' where
 keep:=fun b u q _ _ _=>k b u q
 slot:=fun b u q _ _ _=>⟨u.slots,k b u q⟩
 free:=fun b u q n _=>by rw [z0q (aC (aM (Heap.lt_size q) hp))];exact n
 there:=fun b u q _=>⟨u,k b u q⟩
 tups:=fun b xs q=>by rw [z0q (z1e q hn)];exact q
 frzs:=fun b u xs q=>by rw [z0q (z1e q hn)];exact q
 tbls:=fun b ps q=>⟨#[],by rw [z0q (z1e q hn),q];simp⟩
theorem Un.write(mu:Mut (H x))(he:e=x∨H e=some (.own x))(k:∀b u,b≠e->h.get? b=some u->h'.get? b=some u)(heo:∃u,h'.get? e=some u):Un fs ex H (upd H x o) h h':=by
 have hx:∀b,H b=none->b≠x:=fun b n z=>by subst z;rw [n]at mu;exact mu
 have hb:∀b,H b=none->b≠e:=fun b n z=>by
  subst z
  rcases he with r | r
  ·exact hx b n r
  ·rw [n]at r;cases r
 have hm:∀b u,H b=some u->¬ Mut (some u)->b≠x:=fun b u q nm z=>by subst z;rw [q]at mu;exact nm mu
 refine⟨fun b u q n _ _=>k b u (hb b n) q,fun b u q n _ _=>⟨u.slots,k b u (hb b n) q⟩,fun b u q n _=>by rw [z0q (hx b n)];exact n,fun b u q _=>?_,
  fun b xs q=>by rw [z0q (hm b _ q fun z=>z)];exact q,fun b u xs q=>by rw [z0q (hm b _ q fun z=>z)];exact q,fun b ps q=>⟨#[],by rw [z0q (hm b _ q fun z=>z),q];simp⟩⟩
 by_cases hbe:b=e
 ·subst hbe;exact heo
 ·exact⟨u,k b u hbe q⟩
end
def trk(h:Heap)(H:Hp):List Addr:=(ad h.objs.size).filter fun a=>(H a).isSome
def x0K(h:Heap)(H:Hp):Heap:=PySem.W.hideAll h (trk h H)
theorem y5V(h:Heap)(H:Hp):(x0K h H).objs.size=h.objs.size:=PySem.W.hideAll_size _ _
theorem x0t{h:Heap}{H:Hp}{b:Addr}{o:Obj}(e:h.get? b=some o)(n:H b=none):(x0K h H).get? b=some o:=
 PySem.W.hideAll_get _ e fun hm=>by
  have q:(H b).isSome=true:=(aj.mp hm).2
  rw [n]at q;simp at q
theorem of_hidT{h:Heap}{H:Hp}{b:Addr}{o:Obj}(e:(x0K h H).get? b=some o):h.get? b=some o∧H b=none:=by
 have e':h.get? b=some o:=PySem.W.of_hideAll (trk h H) e
 refine⟨e',?_⟩
 cases q:H b with
 |none=>rfl
 |some x=>
  have hm:b∈trk h H:=aj.mpr ⟨ae.mpr (Heap.lt_size e'),by simp [q]⟩
  have z:(x0K h H).get? b=none:=PySem.W.hideAll_none (trk h H) hm
  rw [z]at e;cases e
def allNews(g h:Heap)(L:Addr):List (Addr×Obj):=(ad h.objs.size).filterMap fun a=>if a=L∨(g.get? a).isSome=true then none else(h.get? a).map fun o=>(a,o)
def rest(g h:Heap)(L d:Addr):List (Addr×Obj):=(allNews g h L).filter fun p=>decide (p.1≠d)
end L2
namespace L2
open PySem PySem.Spec PyProof.Rows
structure Mod(K:aa)(mg:Str->Option Value)(base:Heap):Prop where
 kin:K.In base
 glob:base.Ns mainGlobals mg
 blt:∃mb,base.Ns builtinsNs mb∧∀x:Str,x ≠ "__name__" → mb x=bootBuiltins x
 nolimit:base.NoLimit
structure Cx where
 prog:Program
 w:World
 K:aa
 mg:Str->Option Value
 base:Heap
 A:Around
 N:List Str
 s₀:Shared
 H₀:Hp
 env:Env
 outer:List Env
 stack:List Env
 ex:List Addr
 fn:Str->Bool
 calm:Bool
 pn:List (Addr×Obj)
 xe:Value->Shared->Prop
def frs(l:List Env):List Addr:=l.filterMap (·.frame)
abbrev Cx.fs(X:Cx):List Addr:=frs X.outer
def Vis(sc:Scope)(x:Str):Prop:=sc.names.lookup x=some .local∨sc.names.lookup x=some .cell∨sc.names.lookup x=some .free
def Loc(sc:Scope)(x:Str):Prop:=sc.names.lookup x=some .local∨sc.names.lookup x=some .cell
def Look(env:Env)(h:Heap)(m:Str->Option Value)(x:Str)(u:Value):Prop:=
 (env.kindOf x=some .local∧m x=some u)∨((env.kindOf x=some .cell∨env.kindOf x=some .free)∧∃c,env.cells.lookup x=some c∧h.IsCell c (some u))
structure Cx.Ok(X:Cx):Prop where
 mod:Mod X.K X.mg X.base
 kind:X.env.scope.kind = .function
 glob:X.env.globals=mainGlobals
 blt:X.env.builtins=builtinsNs
 above:X.s₀.heap.objs.size≤X.env.locals
 inj:∀x y c,X.env.cells.lookup x=some c->X.env.cells.lookup y=some c->x=y
 has:∀x,(X.env.kindOf x=some .cell∨X.env.kindOf x=some .free)->∃c,X.env.cells.lookup x=some c
 cab:∀x c,X.fn x=true->X.env.cells.lookup x=some c->X.s₀.heap.objs.size≤c
 hd:X.calm=true->X.A.handled=none
 frames:X.A.frames=some X.stack
 stk:X.stack=X.outer∨(X.stack=X.env::X.outer∧X.env.frame=some X.env.locals)
 exf:∀b∈X.ex,b≠X.env.locals∧∀x c,X.env.cells.lookup x=some c->c≠b
 bs:∀b o,X.base.get? b=some o->X.s₀.heap.get? b=some o∧X.H₀ b=none
 bsz:X.base.objs.size≤X.s₀.heap.objs.size
 noex:∀b o,X.base.get? b=some o->b∉X.ex
 exfs:∀b∈X.ex,b∉X.fs
 funs:X.s₀.heap.FunFrames X.base X.outer
 frf:∀b∈X.fs,X.H₀ b=none
structure Inv(X:Cx)(pins:List (Addr×Obj))(σ:List (Option V))(H:Hp)(s:Shared):Prop where
 ok:X.Ok
 os:s.os=X.s₀.os
 bare:AllBare s.gens
 base:Un X.fs X.ex X.H₀ H X.s₀.heap s.heap
 loc:∃m,s.heap.Ns X.env.locals m∧∀(i:Nat) (x:Str) (v:V),X.N[i]? = some x->σ[i]? = some (some v)->Vis X.env.scope x->∃u,RelV v u∧Look X.env s.heap m x u
 cell:∀x c,X.env.cells.lookup x=some c->∃v,s.heap.IsCell c v
 free:H X.env.locals=none
 freeC:∀x c,X.env.cells.lookup x=some c->H c=none
 pin:∀p∈X.pn++pins,s.heap.get? p.1=some p.2∧H p.1=none∧p.1≠X.env.locals∧p.1∉X.fs∧∀v,p.2.data≠.cell v
 hok:HOk X.prog X.w H s.heap
 len:σ.length=X.N.length
section
variable{X:Cx}{pins:List (Addr×Obj)}{σ:List (Option V)}{H H':Hp}{s:Shared}{h':Heap}
theorem Cx.Ok.nofr(ok:X.Ok){b:Addr}{o:Obj}(e:X.base.get? b=some o):b∉X.fs:=fun hb=>by
 have:=(ok.funs.mem hb).1
 rw [e]at this;cases this
theorem Inv.bs(I:Inv X pins σ H s):∀b o,X.base.get? b=some o->s.heap.get? b=some o∧H b=none:=fun b o e=>
 ⟨I.base.keep b o (I.ok.bs b o e).1 (I.ok.bs b o e).2 (I.ok.nofr e) (I.ok.noex b o e),I.base.free b o (I.ok.bs b o e).1 (I.ok.bs b o e).2 (I.ok.noex b o e)⟩
theorem Inv.bk(I:Inv X pins σ H s):∀b o,X.base.get? b=some o->s.heap.get? b=some o:=fun b o e=>(I.bs b o e).1
theorem Inv.mod(I:Inv X pins σ H s):Mod X.K X.mg X.base:=I.ok.mod
theorem Inv.kIn(I:Inv X pins σ H s):X.K.In s.heap:=I.ok.mod.kin.keeps I.bk
theorem Inv.lt(I:Inv X pins σ H s):X.env.locals<s.heap.objs.size:=let⟨_,hn,_⟩:=I.loc;hn.lt
theorem Inv.sz(I:Inv X pins σ H s):X.s₀.heap.objs.size≤s.heap.objs.size:=ba I.ok.above (cT I.lt)
theorem Inv.nofs(I:Inv X pins σ H s){a:Addr}(h:s.heap.objs.size≤a):a∉X.fs:=fun hb=>by
 obtain⟨_,o,ho,_⟩:=I.ok.funs.mem hb
 exact absurd (aM (Heap.lt_size ho) (ba I.sz h)) (bN _)
theorem Inv.cne(I:Inv X pins σ H s):∀x c,X.env.cells.lookup x=some c->c≠X.env.locals:=fun x c e z=>by
 obtain⟨v,o,ho,hd⟩:=I.cell x c e
 obtain⟨m,⟨o',es,ep,ho',hd',_⟩,_⟩:=I.loc
 rw [z,ho']at ho;cases ho;rw [hd']at hd;cases hd
theorem Inv.funs(I:Inv X pins σ H s):s.heap.FunFrames X.base X.outer:=by
 have all:∀(l:List Env),(∀b∈frs l,b∈X.fs)->X.s₀.heap.FunFrames X.base l->s.heap.FunFrames X.base l:=by
  intro l
  induction l with
  |nil=>intro _ _;trivial
  |cons env r ih=>
   intro hs hl
   obtain⟨hk,⟨L,o,hf,hn,ho,hd⟩,hr⟩:=hl
   have hL:L∈X.fs:=hs L (by unfold frs;rw [bT,hf];exact ah)
   obtain⟨sl,e⟩:=I.base.slot L o ho (I.ok.frf L hL) hL fun z=>I.ok.exfs L z hL
   exact⟨hk,⟨L,_,hf,hn,e,hd⟩,ih (fun b hb=>hs b (by unfold frs;rw [bT,hf];exact ag _ hb)) hr⟩
 exact all X.outer (fun _ hb=>hb) I.ok.funs
theorem Inv.stack(I:Inv X pins σ H s):s.heap.FunFrames X.base X.stack:=by
 rcases I.ok.stk with e | ⟨e,hf⟩
 ·rw [e];exact I.funs
 ·rw [e]
  obtain⟨m,hn,_⟩:=I.loc
  refine .cons (by rw [I.ok.kind];decide) hf hn ?_ I.funs
  exact Heap.get?_none_of_le (ba I.ok.bsz I.ok.above)
theorem Inv.stkSub(I:Inv X pins σ H s):∀b∈frs X.stack,b∈X.env.locals::X.fs:=fun b hb=>by
 rcases I.ok.stk with e | ⟨e,hf⟩
 ·rw [e]at hb;exact ag _ hb
 ·rw [e]at hb
  unfold frs at hb
  rw [bT,hf]at hb
  exact hb
theorem Inv.stkFree(I:Inv X pins σ H s):∀b∈frs X.stack,H b=none:=fun b hb=>by
 rcases ai.mp (I.stkSub b hb)with e | hb
 ·rw [e];exact I.free
 ·obtain⟨_,o,ho,_⟩:=I.ok.funs.mem hb
  exact I.base.free b o ho (I.ok.frf b hb) fun z=>I.ok.exfs b z hb
theorem Inv.step{g':Array GenState}{t':Nat}{d':Drawn}{ch:List Addr}(I:Inv X pins σ H s)
  (hch:∀b∈ch,(b∈X.ex∨X.s₀.heap.objs.size≤b)∧b≠X.env.locals∧(∀x c,X.env.cells.lookup x=some c->c≠b)∧∀p∈X.pn++pins,p.1≠b)
  (keep:∀b o,b≠X.env.locals->b∉X.fs->b∉ch->s.heap.get? b=some o->H b=none->h'.get? b=some o)
  (slot:∀b o,b≠X.env.locals->b∈X.fs->b∉ch->s.heap.get? b=some o->H b=none->∃sl,h'.get? b=some { o with slots:=sl }) (free:∀b o,b∉ch->s.heap.get? b=some o->H b=none->H' b=none)
  (there:∀b o,b∉ch->s.heap.get? b=some o->∃o',h'.get? b=some o')
  (tups:∀b xs,H b=some (.tup xs)->H' b=some (.tup xs)) (frzs:∀b o u,H b=some (.frz o u)->H' b=some (.frz o u)) (tbls:∀b ps,H b=some (.tbl ps)->∃more,H' b=some (.tbl (ps++more)))
  (ns:∀m,s.heap.Ns X.env.locals m->h'.Ns X.env.locals m) (hok:HOk X.prog X.w H' h') (hg:AllBare g'):
  Inv X pins σ H' { s with heap:=h',gens:=g',drawn:=d',toks:=t' }:=by
 have neL:∀b o,X.s₀.heap.get? b=some o->b≠X.env.locals:=fun b o e=>aC (aM (Heap.lt_size e) I.ok.above)
 have neC:∀b o,X.s₀.heap.get? b=some o->b∉X.ex->b∉ch:=fun b o e hx hb=>by
  rcases (hch b hb).1 with z | z
  ·exact hx z
  ·exact absurd (aM (Heap.lt_size e) z) (bN _)
 have cellK:∀x c,X.env.cells.lookup x=some c->∀v,s.heap.IsCell c v->h'.IsCell c v:=fun x c e v ⟨o,ho,hd⟩=>by
  have nch:c∉ch:=fun z=>(hch c z).2.2.1 x c e rfl
  by_cases hc:c∈X.fs
  ·obtain⟨sl,q⟩:=slot c o (I.cne x c e) hc nch ho (I.freeC x c e)
   exact⟨_,q,hd⟩
  ·exact⟨o,keep c o (I.cne x c e) hc nch ho (I.freeC x c e),hd⟩
 refine⟨I.ok,I.os,hg,⟨fun b o e n hb hx=>?_,fun b o e n hb hx=>?_,fun b o e n hx=>?_,fun b o e hx=>?_,fun b xs e=>tups b xs (I.base.tups b xs e),fun b o xs e=>frzs b o xs (I.base.frzs b o xs e),fun b ps e=>?_⟩,?_,fun x c e=>?_,?_,fun x c e=>?_,fun p hp=>?_,hok,I.len⟩
 ·exact keep b o (neL b o e) hb (neC b o e hx) (I.base.keep b o e n hb hx) (I.base.free b o e n hx)
 ·obtain⟨sl,e1⟩:=I.base.slot b o e n hb hx
  obtain⟨sl',e2⟩:=slot b _ (neL b o e) hb (neC b o e hx) e1 (I.base.free b o e n hx)
  exact⟨sl',e2⟩
 ·obtain⟨o',e1⟩:=I.base.there b o e hx
  exact free b o' (neC b o e hx) e1 (I.base.free b o e n hx)
 ·obtain⟨o',e1⟩:=I.base.there b o e hx
  exact there b o' (neC b o e hx) e1
 ·obtain⟨m1,e1⟩:=I.base.tbls b ps e
  obtain⟨m2,e2⟩:=tbls b _ e1
  exact⟨m1++m2,by rw [e2,Array.append_assoc]⟩
 ·obtain⟨m,hn,hl⟩:=I.loc
  refine⟨m,ns m hn,fun i x v e1 e2 e3=>?_⟩
  obtain⟨u,r,l⟩:=hl i x v e1 e2 e3
  refine⟨u,r,?_⟩
  rcases l with l | ⟨k,c,e,z⟩
  ·exact .inl l
  ·exact .inr ⟨k,c,e,cellK x c e _ z⟩
 ·obtain⟨v,z⟩:=I.cell x c e
  exact⟨v,cellK x c e v z⟩
 ·obtain⟨m,⟨o,_,_,ho,_⟩,_⟩:=I.loc
  exact free _ o (fun z=>(hch _ z).2.1 rfl) ho I.free
 ·obtain⟨v,o,ho,hd⟩:=I.cell x c e
  exact free c o (fun z=>(hch c z).2.2.1 x c e rfl) ho (I.freeC x c e)
 ·obtain⟨e,n,ne,nf,d⟩:=I.pin p hp
  have nch:p.1∉ch:=fun z=>(hch p.1 z).2.2.2 p hp rfl
  exact⟨keep p.1 p.2 ne nf nch e n,free p.1 p.2 nch e n,ne,nf,d⟩
theorem Inv.un{t':Nat}(I:Inv X pins σ H s)(u:Un X.fs [] H H' s.heap h')(hok:HOk X.prog X.w H' h'):Inv X pins σ H' { s with heap:=h',toks:=t' }:=by
 obtain⟨m,⟨o,es,ep,ho,r⟩,_⟩:=id I.loc
 obtain⟨sl,hL⟩:=u.any ho I.free (by simp)
 exact I.step (g':=s.gens) (d':=s.drawn) (ch:=[]) (fun _ z=>nomatch z) (fun b o _ hb _ e n=>u.keep b o e n hb (by simp)) (fun b o _ hb _ e n=>u.slot b o e n hb (by simp)) (fun b o _ e n=>u.free b o e n (by simp)) (fun b o _ e=>u.there b o e (by simp)) u.tups u.frzs u.tbls (fun m' hm=>by
  obtain⟨o',es',ep',ho',r'⟩:=hm
  rw [ho]at ho';cases ho'
  exact⟨_,es',ep',hL,r'⟩) hok I.bare
theorem Inv.call{g':Array GenState}{t':Nat}{d':Drawn}{ch:List Addr}(I:Inv X pins σ H s)(u:Un (frs X.stack) ch H H' s.heap h')(hok:HOk X.prog X.w H' h')(hg:AllBare g')
  (hch:∀b∈ch,(b∈X.ex∨X.s₀.heap.objs.size≤b)∧b≠X.env.locals∧(∀x c,X.env.cells.lookup x=some c->c≠b)∧∀p∈X.pn++pins,p.1≠b):
  Inv X pins σ H' { s with heap:=h',gens:=g',drawn:=d',toks:=t' }:=by
 obtain⟨m,⟨o,es,ep,ho,r⟩,_⟩:=id I.loc
 obtain⟨sl,hL⟩:=u.any ho I.free fun z=>(hch _ z).2.1 rfl
 exact I.step (ch:=ch) hch (fun b o hL hb hc e n=>u.keep b o e n (fun z=>(ai.mp (I.stkSub b z)).elim hL hb) hc) (fun b o _ _ hc e n=>u.any e n hc) (fun b o hc e n=>u.free b o e n hc) (fun b o hc e=>u.there b o e hc) u.tups u.frzs u.tbls (fun m' hm=>by
  obtain⟨o',es',ep',ho',r'⟩:=hm
  rw [ho]at ho';cases ho'
  exact⟨_,es',ep',hL,r'⟩) hok hg
theorem Inv.turned{t':Nat}{it:Addr}(I:Inv X pins σ H s)(k:∀b o,b≠it->s.heap.get? b=some o->h'.get? b=some o)(hn:H it=none)(hL:it≠X.env.locals)
  (h1:it∈X.ex∨X.s₀.heap.objs.size≤it) (h2:∀x c,X.env.cells.lookup x=some c->c≠it) (h3:∀p∈X.pn++pins,p.1≠it):Inv X pins σ H { s with heap:=h',toks:=t' }:=by
 have nit:∀b u,H b=some u->b≠it:=fun b u e z=>by rw [z,hn]at e;cases e
 refine I.step (g':=s.gens) (d':=s.drawn) (ch:=[it]) (fun b hb=>?_) (fun b o _ _ hc e _=>k b o (fun z=>hc (by simp [z])) e) (fun b o _ _ hc e _=>⟨o.slots,k b o (fun z=>hc (by simp [z])) e⟩) (fun _ _ _ _ n=>n)
  (fun b o hc e=>⟨o,k b o (fun z=>hc (by simp [z])) e⟩) (fun _ _ e=>e) (fun _ _ _ e=>e) (fun b ps e=>⟨#[],by rw [e];simp⟩) (fun m hm=>?_) (fun b u e=>?_) I.bare
 ·have e:b=it:=by simpa using hb
  subst e
  exact⟨h1,hL,h2,h3⟩
 ·obtain⟨o,es,ep,ho,r⟩:=hm
  exact⟨o,es,ep,k _ o (Ne.symm hL) ho,r⟩
 ·refine(I.hok b u e).stay (fun c v hc q=>k c v ?_ q) (fun _ q=>q) fun _ _ q=>q
  rcases hc with z | z
  ·rw [z];exact nit b u e
  ·exact nit c _ z
theorem Inv.tok(I:Inv X pins σ H s)(t:Nat):Inv X pins σ H { s with toks:=t }:=I.un (h':=s.heap) (t':=t) Un.refl I.hok
theorem Inv.kept{t':Nat}(I:Inv X pins σ H s)(k:∀b u,s.heap.get? b=some u->h'.get? b=some u):Inv X pins σ H { s with heap:=h',toks:=t' }:=I.un (Un.kept k) (I.hok.kept k)
theorem Inv.laid{a:Addr}{o:HO}{t':Nat}(I:Inv X pins σ H s)(k:∀b u,s.heap.get? b=some u->h'.get? b=some u)(hp:s.heap.objs.size≤a)(new:ObjOk X.prog X.w (upd H a o) h' a o):
  Inv X pins σ (upd H a o) { s with heap:=h',toks:=t' }:=I.un (Un.laid k hp (I.hok.fresh hp)) (I.hok.laid k hp new)
theorem Inv.write{x e:Addr}{o:HO}{t':Nat}(I:Inv X pins σ H s)(mu:Mut (H x))(he:e=x∨H e=some (.own x))(k:∀b u,b≠e->s.heap.get? b=some u->h'.get? b=some u)(heo:∃u,h'.get? e=some u)
  (new:ObjOk X.prog X.w (upd H x o) h' x o):Inv X pins σ (upd H x o) { s with heap:=h',toks:=t' }:=I.un (Un.write mu he k heo) (I.hok.write mu he k heo new)
theorem Inv.pins_of{pins':List (Addr×Obj)}(I:Inv X pins σ H s)(h:∀p∈pins',s.heap.get? p.1=some p.2∧H p.1=none∧p.1≠X.env.locals∧p.1∉X.fs∧∀v,p.2.data≠.cell v):Inv X pins' σ H s:=
 ⟨I.ok,I.os,I.bare,I.base,I.loc,I.cell,I.free,I.freeC,fun p hp=>(ay.mp hp).elim (fun z=>I.pin p (cM _ z)) (h p),I.hok,I.len⟩
theorem y3N{N:List Str}(hN:N.Nodup){i j:Nat}{x:Str}(a:N[i]? = some x)(b:N[j]? = some x):i=j:=by
 obtain⟨h1,e1⟩:=aX.mp a
 obtain⟨h2,e2⟩:=aX.mp b
 exact(List.getElem_inj hN).mp (e1.trans e2.symm)
theorem y0L{M:Model}{A:Around}{E:Value->Shared->Prop}{i:Nat}{x:Str}{v:V}{u:Value}{Q:Unit->Shared->Prop}(I:Inv X pins σ H s)(hN:X.N.Nodup)(hi:X.N[i]? = some x)(hx:Loc X.env.scope x)(r:RelV v u)
  (h:∀s',Inv X pins (σ.set i (some v)) H s'->(∃a,Heap.SameBut a s.heap s'.heap∧(a=X.env.locals∨X.env.cells.lookup x=some a))->Q () s') (hf:X.fn x=true∨X.env.scope.names.lookup x=some .local:=by first | exact .inl rfl | exact .inr rfl | assumption):wpAny M A (storeName X.env x u) Q E s:=by
 obtain⟨m,hn,hl⟩:=id I.loc
 have hcls:(X.env.scope.kind == .class||(X.env.scope.kind == .module&&X.env.locals != X.env.globals))=false:=by rw [I.ok.kind];rfl
 have hiσ:i<σ.length:=by rw [I.len];exact(aX.mp hi).1
 have cne:=I.cne
 have tracked:∀{a:Addr} {h':Heap},(∃o,s.heap.get? a=some o∧H a=none)->Heap.SameBut a s.heap h'->HOk X.prog X.w H h':=fun {a h'} ha hs b ob e=>by
  obtain⟨_,_,hfree⟩:=ha
  refine(I.hok b ob e).stay (fun c w' hc q=>(hs.2 c ?_).trans q) (fun _ q=>q) fun _ _ q=>q
  rintro rfl
  rcases hc with rfl | hc
  ·rw [hfree]at e;cases e
  ·rw [hfree]at hc;cases hc
 rcases hx with hk | hk
 ·refine wpAny_storeName_local hk hn (fun h' hn' hs=>?_) hcls
  obtain⟨oL,_,_,hoL,_⟩:=id hn
  refine h _ ⟨I.ok,I.os,I.bare,⟨fun b o e n hb hx=>?_,fun b o e n hb hx=>?_,I.base.free,fun b o e hx=>?_,I.base.tups,I.base.frzs,I.base.tbls⟩,⟨_,hn',fun j y v' e1 e2 e3=>?_⟩,fun y c e=>?_,I.free,I.freeC,fun p hp=>?_,tracked ⟨oL,hoL,I.free⟩ hs,by simpa using I.len⟩ ⟨_,hs,.inl rfl⟩
  ·exact(hs.2 b (aC (aM (Heap.lt_size e) I.ok.above))).trans (I.base.keep b o e n hb hx)
  ·obtain⟨sl,e1⟩:=I.base.slot b o e n hb hx
   exact⟨sl,(hs.2 b (aC (aM (Heap.lt_size e) I.ok.above))).trans e1⟩
  ·obtain⟨o',e1⟩:=I.base.there b o e hx
   exact⟨o',(hs.2 b (aC (aM (Heap.lt_size e) I.ok.above))).trans e1⟩
  ·by_cases hj:j=i
   ·subst hj
    rw [hi]at e1;cases e1
    rw [dc hiσ]at e2
    cases e2
    exact⟨u,r,.inl ⟨hk,by simp⟩⟩
   ·rw [bp (Ne.symm hj)]at e2
    obtain⟨u',r',q⟩:=hl j y v' e1 e2 e3
    refine⟨u',r',?_⟩
    rcases q with⟨k,e⟩ | ⟨k,c,e,z⟩
    ·refine .inl ⟨k,?_⟩
     have:y≠x:=fun e=>hj (y3N hN e1 (e ▸ hi))
     simp [this,e]
    ·exact .inr ⟨k,c,e,z.sameBut hs (cne y c e)⟩
  ·obtain⟨w',z⟩:=I.cell y c e
   exact⟨w',z.sameBut hs (cne y c e)⟩
  ·obtain⟨e,n,ne,nf,d⟩:=I.pin p hp
   exact⟨(hs.2 p.1 ne).trans e,n,ne,nf,d⟩
 ·have hfn:X.fn x=true:=by
   rcases hf with z | z
   ·exact z
   ·rw [z]at hk;cases hk
  obtain⟨c,hc⟩:=I.ok.has x (.inl hk)
  obtain⟨w',z⟩:=I.cell x c hc
  refine wpAny_storeName_cell I.ok.kind hk hc z (fun h' hc' hs=>?_)
  obtain⟨oc,hoc,hocd⟩:=id z
  refine h { s with heap:=h' } ⟨I.ok,I.os,I.bare,⟨fun b o e n hb hx=>?_,fun b o e n hb hx=>?_,I.base.free,fun b o e hx=>?_,I.base.tups,I.base.frzs,I.base.tbls⟩,⟨m,hn.sameBut hs (Ne.symm (cne x c hc)),fun j y v' e1 e2 e3=>?_⟩,fun y c' e=>?_,I.free,I.freeC,fun p hp=>?_,tracked ⟨oc,hoc,I.freeC x c hc⟩ hs,by simpa using I.len⟩ ⟨c,hs,.inr hc⟩
  ·exact(hs.2 b (aC (aM (Heap.lt_size e) (I.ok.cab x c hfn hc)))).trans (I.base.keep b o e n hb hx)
  ·obtain⟨sl,e1⟩:=I.base.slot b o e n hb hx
   exact⟨sl,(hs.2 b (aC (aM (Heap.lt_size e) (I.ok.cab x c hfn hc)))).trans e1⟩
  ·obtain⟨o',e1⟩:=I.base.there b o e hx
   exact⟨o',(hs.2 b (aC (aM (Heap.lt_size e) (I.ok.cab x c hfn hc)))).trans e1⟩
  ·by_cases hj:j=i
   ·subst hj
    rw [hi]at e1;cases e1
    rw [dc hiσ]at e2
    cases e2
    exact⟨u,r,.inr ⟨.inl hk,c,hc,hc'⟩⟩
   ·rw [bp (Ne.symm hj)]at e2
    obtain⟨u',r',q⟩:=hl j y v' e1 e2 e3
    refine⟨u',r',?_⟩
    rcases q with q | ⟨k,c',e,z'⟩
    ·exact .inl q
    ·refine .inr ⟨k,c',e,z'.sameBut hs ?_⟩
     rintro rfl
     exact hj (y3N hN e1 (I.ok.inj _ _ _ e hc ▸ hi))
  ·by_cases hcc:c'=c
   ·subst hcc;exact⟨_,hc'⟩
   ·obtain⟨w2,z2⟩:=I.cell y c' e
    exact⟨w2,z2.sameBut hs hcc⟩
  ·obtain⟨e,n,ne,nf,d⟩:=I.pin p hp
   refine⟨(hs.2 p.1 ?_).trans e,n,ne,nf,d⟩
   intro q
   rw [q,hoc]at e
   have q':oc=p.2:=Option.some.inj e
   exact d w' (by rw [←q'];exact hocd)
theorem y3x{M:Model}{A:Around}{E:Value->Shared->Prop}{i:Nat}{x:Str}{v:V}{u:Value}{Q:Unit->Shared->Prop}(I:Inv X pins σ H s)(hN:X.N.Nodup)(hi:X.N[i]? = some x)(hx:Loc X.env.scope x)(r:RelV v u)
  (h:∀s',Inv X pins (σ.set i (some v)) H s'->Q () s') (hf:X.fn x=true∨X.env.scope.names.lookup x=some .local:=by first | exact .inl rfl | exact .inr rfl | assumption):wpAny M A (storeName X.env x u) Q E s:=
 y0L I hN hi hx r (fun s' I' _=>h s' I') hf
theorem Inv.call'{s':Shared}{ch:List Addr}(I:Inv X pins σ H s)(ho:s'.os=s.os)(u:Un (frs X.stack) ch H H' s.heap s'.heap)(hok:HOk X.prog X.w H' s'.heap)(hg:AllBare s'.gens)
  (hch:∀b∈ch,(b∈X.ex∨X.s₀.heap.objs.size≤b)∧b≠X.env.locals∧(∀x c,X.env.cells.lookup x=some c->c≠b)∧∀p∈X.pn++pins,p.1≠b):Inv X pins σ H' s':=by
 obtain⟨h',g',d',t',o'⟩:=s'
 have e:o'=s.os:=ho
 subst e
 exact I.call (g':=g') (t':=t') (d':=d') u hok hg hch
end
abbrev XK:=Value->Option Addr->Hp->Prop
abbrev St:=List (Option V)
abbrev VK:=V->Hp->Prop
abbrev TE:=St->Hp->VK->Prop
abbrev TT:=St->Hp->(Bool->Hp->Prop)->Prop
abbrev TA:=St->Hp->(List V->Hp->Prop)->Prop
structure Ends where
 nx:St->Hp->Prop
 rt:VK
 bk:St->Hp->Prop:=fun _ _=>False
 ct:St->Hp->Prop:=fun _ _=>False
abbrev TS:=Ends->St->Hp->Prop
def EP(X:Cx)(pins:List (Addr×Obj))(σ:St)(Q:VK)(u:Value)(s':Shared):Prop:=∃v H',Inv X pins σ H' s'∧RelV v u∧Q v H'
def TP(X:Cx)(pins:List (Addr×Obj))(σ:St)(Q:Bool->Hp->Prop)(b:Bool)(s':Shared):Prop:=∃H',Inv X pins σ H' s'∧Q b H'
def AP(X:Cx)(pins:List (Addr×Obj))(σ:St)(Q:List V->Hp->Prop)(us:List Value)(s':Shared):Prop:=∃vs H',Inv X pins σ H' s'∧Vals vs us∧Q vs H'
def SP(X:Cx)(pins:List (Addr×Obj))(D:Ends)(f:Flow)(s':Shared):Prop:=
 match f with
 |.next=>∃σ' H',Inv X pins σ' H' s'∧D.nx σ' H'
 |.brk=>∃σ' H',Inv X pins σ' H' s'∧D.bk σ' H'
 |.cont=>∃σ' H',Inv X pins σ' H' s'∧D.ct σ' H'
 |.ret u=>∃v σ' H',Inv X pins σ' H' s'∧RelV v u∧D.rt v H'
def PE(X:Cx)(e:Expr)(t:TE):Prop:=
 ∀(pins:List (Addr×Obj)) (s:Shared) (σ:St) (H:Hp) (Q:VK),Inv X pins σ H s->t σ H Q->wpAny (model X.prog X.w) X.A (eval e X.env) (EP X pins σ Q) X.xe s
def PT(X:Cx)(e:Expr)(t:TT):Prop:=
 ∀(pins:List (Addr×Obj)) (s:Shared) (σ:St) (H:Hp) (Q:Bool->Hp->Prop),Inv X pins σ H s->t σ H Q->wpAny (model X.prog X.w) X.A (isTrue e X.env (eval e X.env)) (TP X pins σ Q) X.xe s
def PW(X:Cx)(e:Expr)(t:TT):Prop:=
 ∀(whole:Sem Value) (pins:List (Addr×Obj)) (s:Shared) (σ:St) (H:Hp) (Q:Bool->Hp->Prop),Inv X pins σ H s->t σ H Q->wpAny (model X.prog X.w) X.A (isTrue e X.env whole) (TP X pins σ Q) X.xe s
theorem PW.pt{X:Cx}{e:Expr}{t:TT}(h:PW X e t):PT X e t:=h _
def PA(X:Cx)(es:List Expr)(t:TA):Prop:=
 ∀(pos:Pos) (pins:List (Addr×Obj)) (s:Shared) (σ:St) (H:Hp) (Q:List V->Hp->Prop),Inv X pins σ H s->t σ H Q->wpAny (model X.prog X.w) X.A (spliced (backTo pos (starEach es X.env))) (AP X pins σ Q) X.xe s
def PS(X:Cx)(st:Stmt)(t:TS):Prop:=
 ∀(pins:List (Addr×Obj)) (s:Shared) (σ:St) (H:Hp) (D:Ends),Inv X pins σ H s->t D σ H->wpAny (model X.prog X.w) X.A (exec st X.env) (SP X pins D) X.xe s
def PSs(X:Cx)(st:List Stmt)(t:TS):Prop:=
 ∀(pins:List (Addr×Obj)) (s:Shared) (σ:St) (H:Hp) (D:Ends),Inv X pins σ H s->t D σ H->wpAny (model X.prog X.w) X.A (execs st X.env) (SP X pins D) X.xe s
theorem thn{α:Type}{t:Sem α}{Q Q':α->Shared->Prop}{M:Model}{A:Around}{E:Value->Shared->Prop}{s:Shared}(h:wpAny M A t Q E s)(hQ:∀a s,Q a s->Q' a s):wpAny M A t Q' E s:=wpAny_mono h hQ fun _ _ x=>x
end L2
namespace L2
open PySem PySem.Spec PyProof.Rows
section
variable{X:Cx}
def y1u(i:Nat):TE:=fun σ H Q=>∃v,σ[i]? = some (some v)∧Q v H
def tC(v:V):TE:=fun _ H Q=>Q v H
theorem pe_var{i:Nat}{x:Str}{pos:Pos}(hN:X.N[i]? = some x)(hv:Vis X.env.scope x)(hd:(x==("__debug__" : Str))=false:=by decide)(hcd:(x==("__classdict__" : Str))=false:=by decide):PE X (.Name x pos) (y1u i):=by
 intro pins s σ H Q I h
 obtain⟨v,e,h⟩:=h
 obtain⟨m,hn,hl⟩:=I.loc
 obtain⟨u,r,l⟩:=hl i x v hN e hv
 have fin:EP X pins σ Q u s:=⟨v,H,I,r,h⟩
 rcases l with⟨hk,hm⟩ | ⟨hk,c,hc,hcell⟩
 ·exact wpAny_Name (wpAny_loadName_local I.ok.kind hk hn hm fin) hd
 ·rcases hk with hk | hk
  ·exact wpAny_Name (wpAny_loadName_cell I.ok.kind hk hc hcell fin) hd
  ·exact wpAny_Name (wpAny_loadName_free I.ok.kind hk hc hcell fin hcd) hd
theorem pe_int{i j pos}:PE X (.Constant (.int i) j pos) (tC (.int i)):=fun _ _ _ H _ I h=>wpAny_Constant_int ⟨.int i,H,I.tok _,⟨_,rfl⟩,h⟩
theorem pe_bl{b j pos}:PE X (.Constant (.bool b) j pos) (tC (.bl b)):=fun _ _ _ H _ I h=>Constant_bool ⟨.bl b,H,I,rfl,h⟩
theorem pe_non{j pos}:PE X (.Constant .none j pos) (tC .non):=fun _ _ _ H _ I h=>Constant_none ⟨.non,H,I,rfl,h⟩
theorem pe_str{x j pos}:PE X (.Constant (.str x) j pos) (tC (.str x)):=fun _ _ _ H _ I h=>Calls.Constant_str ⟨.str x,H,I.tok _,⟨_,rfl⟩,h⟩
def Gl(X:Cx)(x:Str):Prop:=X.env.kindOf x=some .globalImplicit
theorem y1O{E:Value->Shared->Prop}{pins:List (Addr×Obj)}{s:Shared}{σ:St}{H:Hp}{x:Str}{u:Value}{pos:Pos}{Q:Value->Shared->Prop}(I:Inv X pins σ H s)(hg:Gl X x)(hm:X.mg x=some u)(h:Q u s)
  (hd:(x==("__debug__" : Str))=false:=by decide):wpAny (model X.prog X.w) X.A (eval (.Name x pos) X.env) Q E s:=
 Calls.Name_function_global I.ok.kind hg (Calls.loadGlobal_global (by rw [I.ok.glob];exact I.mod.glob.keeps I.bk) hm h) hd
theorem z4r{E:Value->Shared->Prop}{pins:List (Addr×Obj)}{s:Shared}{σ:St}{H:Hp}{x:Str}{u:Value}{pos:Pos}{Q:Value->Shared->Prop}(I:Inv X pins σ H s)(hg:Gl X x)(hm:X.mg x=none)(hv:bootBuiltins x=some u)(h:Q u s)
  (hn:x ≠ "__name__" := by decide) (hd:(x==("__debug__" : Str))=false:=by decide):wpAny (model X.prog X.w) X.A (eval (.Name x pos) X.env) Q E s:=by
 obtain⟨mb,h1,h2⟩:=I.mod.blt
 exact Calls.Name_function_global I.ok.kind hg (Calls.loadGlobal_builtin (by rw [I.ok.glob];exact I.mod.glob.keeps I.bk) hm (by rw [I.ok.blt];exact h1.keeps I.bk) ((h2 x hn).trans hv) h) hd
theorem pe_bltn{x:Str}{v:V}{u:Value}{pos:Pos}(hg:Gl X x)(hm:X.mg x=none)(hv:bootBuiltins x=some u)(r:RelV v u)(hn:x ≠ "__name__" := by decide)(hd:(x==("__debug__" : Str))=false:=by decide):PE X (.Name x pos) (tC v):=
 fun _ _ _ H _ I h=>z4r I hg hm hv ⟨v,H,I,r,h⟩ hn hd
variable{a b:Expr}{ta tb:TE}{pos:Pos}
def PC(X:Cx)(op:CmpOp)(a b:Expr)(t:TE):Prop:=
 ∀(pins:List (Addr×Obj)) (s:Shared) (σ:St) (H:Hp) (Q:VK),Inv X pins σ H s->t σ H Q →
  wpAny (model X.prog X.w) X.A (eval a X.env) (fun v s₁=>wpAny (model X.prog X.w) X.A (eval b X.env) (fun u s₂=>wpAny (model X.prog X.w) X.A (compareOp op v u) (EP X pins σ Q) X.xe s₂) X.xe s₁) X.xe s
theorem x1M(b:Expr){op:CmpOp}(h:op≠.In)(h2:op≠.NotIn):behindInMarks op b=false:=by
 have e1:(op==CmpOp.In)=false:=by cases op <;> first | rfl | exact absurd rfl h
 have e2:(op==CmpOp.NotIn)=false:=by cases op <;> first | rfl | exact absurd rfl h2
 cases b <;> simp [behindInMarks,e1,e2]
def tIsN(ta:TE):TE:=fun σ H Q=>ta σ H fun x H1=>Q (.bl (decide (x = .non))) H1
theorem RelV.none_iff{x:V}{v:Value}(r:RelV x v):(v==Value.none)=decide (x = .non):=by
 cases x with
 |non=>cases r;rfl
 |bl _=>cases r;rfl
 |int _=>obtain⟨t,rfl⟩:=r;rfl
 |str _=>obtain⟨t,rfl⟩:=r;rfl
 |byt _=>obtain⟨t,rfl⟩:=r;rfl
 |flt _=>obtain⟨t,rfl⟩:=r;rfl
 |ref _=>cases r;rfl
 |ty _=>cases r;rfl
theorem pc_isN{j pos'}(ha:PE X a ta):PC X .Is a (.Constant .none j pos') (tIsN ta):=by
 intro pins s σ H Q I h
 refine thn (ha pins s σ H _ I h) fun v s1 ⟨x,H1,I1,r1,q1⟩=>?_
 exact Constant_none (is_none_gen ⟨.bl _,H1,I1,by rw [r1.none_iff];rfl,q1⟩)
def tB(t:TE):TT:=fun σ H Q=>t σ H fun x H1=>∃c,x = .bl c∧Q c H1
theorem y8G{op:CmpOp}{t:TE}(h:PC X op a b t)(h1:behindInMarks op b=false:=by first | exact x1M _ (by decide) (by decide) | rfl):PT X (.Compare a [op] [b] pos) (tB t):=by
 intro pins s σ H Q I hw
 refine wpAny_isTrue_Compare1 (thn (h pins s σ H _ I hw) fun v s1 h1=>thn h1 fun u s2 h2=>thn h2 fun c s3 ⟨x,H1,I1,r1,q1⟩=>?_) h1
 obtain⟨d,rfl,q⟩:=q1
 cases r1
 exact wpAny_truthy_bool ⟨H1,I1,q⟩
variable{tA tB':TT}{rest:List Expr}
def tAnd(t u:TT):TT:=fun σ H Q=>t σ H fun c H1=>if c=true then u σ H1 Q else Q false H1
def tOr(t u:TT):TT:=fun σ H Q=>t σ H fun c H1=>if c=true then Q true H1 else u σ H1 Q
def tNot(t:TT):TT:=fun σ H Q=>t σ H fun c H1=>Q (!c) H1
theorem pw_and1(ha:PT X a tA):PW X (.BoolOp .And [a] pos) tA:=by
 intro wh pins s σ H Q I h
 refine isTrue_and (thn (ha pins s σ H Q I h) fun c s1 e=>?_)
 cases c with
 |true=>exact isTrue_and_nil e
 |false=>exact e
theorem pw_or1(ha:PT X a tA):PW X (.BoolOp .Or [a] pos) tA:=by
 intro wh pins s σ H Q I h
 refine isTrue_or (thn (ha pins s σ H Q I h) fun c s1 e=>?_)
 cases c with
 |false=>exact isTrue_or_nil e
 |true=>exact e
theorem pw_and(ha:PT X a tA)(hb:PW X (.BoolOp .And (b::rest) pos) tB'):PW X (.BoolOp .And (a::b::rest) pos) (tAnd tA tB'):=by
 intro wh pins s σ H Q I h
 refine isTrue_and (thn (ha pins s σ H _ I h) fun c s1 ⟨H1,I1,q1⟩=>?_)
 cases c with
 |true=>exact hb wh pins s1 σ H1 Q I1 q1
 |false=>exact⟨H1,I1,q1⟩
theorem pw_or(ha:PT X a tA)(hb:PW X (.BoolOp .Or (b::rest) pos) tB'):PW X (.BoolOp .Or (a::b::rest) pos) (tOr tA tB'):=by
 intro wh pins s σ H Q I h
 refine isTrue_or (thn (ha pins s σ H _ I h) fun c s1 ⟨H1,I1,q1⟩=>?_)
 cases c with
 |true=>exact⟨H1,I1,q1⟩
 |false=>exact hb wh pins s1 σ H1 Q I1 q1
theorem pt_not(ha:PT X a tA):PT X (.UnaryOp .Not a pos) (tNot tA):=by
 intro pins s σ H Q I h
 exact isTrue_not (ha pins s σ H (fun c H1=>Q (!c) H1) I h)
def tAndV(ta tb:TE):TE:=fun σ H Q=>ta σ H fun x H1=>∃c,x = .bl c∧if c=true then tb σ H1 Q else Q (.bl false) H1
def tOrV(ta tb:TE):TE:=fun σ H Q=>ta σ H fun x H1=>∃c,x = .bl c∧if c=true then Q (.bl true) H1 else tb σ H1 Q
def tNotV(ta:TE):TE:=fun σ H Q=>ta σ H fun x H1=>∃c,x = .bl c∧Q (.bl (!c)) H1
theorem pe_one{op}{t:TE}(h:PE X a t):PE X (.BoolOp op [a] pos) t:=fun pins s σ H Q I hw=>BoolOp_one (h pins s σ H Q I hw)
theorem pe_and(ha:PE X a ta)(hb:PE X (.BoolOp .And (b::rest) pos) tb):PE X (.BoolOp .And (a::b::rest) pos) (tAndV ta tb):=by
 intro pins s σ H Q I h
 refine BoolOp_and (thn (ha pins s σ H _ I h) fun v s1 ⟨x,H1,I1,r1,q1⟩=>?_)
 obtain⟨c,rfl,q1⟩:=q1
 cases r1
 refine wpAny_truthy_bool ?_
 cases c with
 |true=>exact hb pins s1 σ H1 Q I1 q1
 |false=>exact⟨.bl false,H1,I1,rfl,q1⟩
theorem pe_or(ha:PE X a ta)(hb:PE X (.BoolOp .Or (b::rest) pos) tb):PE X (.BoolOp .Or (a::b::rest) pos) (tOrV ta tb):=by
 intro pins s σ H Q I h
 refine BoolOp_or (thn (ha pins s σ H _ I h) fun v s1 ⟨x,H1,I1,r1,q1⟩=>?_)
 obtain⟨c,rfl,q1⟩:=q1
 cases r1
 refine wpAny_truthy_bool ?_
 cases c with
 |false=>exact hb pins s1 σ H1 Q I1 q1
 |true=>exact⟨.bl true,H1,I1,rfl,q1⟩
theorem pe_not(ha:PE X a ta):PE X (.UnaryOp .Not a pos) (tNotV ta):=by
 intro pins s σ H Q I h
 refine UnaryOp_ (thn (ha pins s σ H _ I h) fun v s1 ⟨x,H1,I1,r1,q1⟩=>?_)
 obtain⟨c,rfl,q1⟩:=q1
 cases r1
 exact not_of (wpAny_truthy_bool ⟨.bl (!c),H1,I1,rfl,q1⟩)
def tIf(t:TT)(ta tb:TE):TE:=fun σ H Q=>t σ H fun c H1=>if c=true then ta σ H1 Q else tb σ H1 Q
theorem x1i{c:Expr}(hc:PT X c tA)(ha:PE X a ta)(hb:PE X b tb):PE X (.IfExp c a b pos) (tIf tA ta tb):=by
 intro pins s σ H Q I h
 refine wpAny_IfExp (thn (hc pins s σ H _ I h) fun d s1 ⟨H1,I1,q1⟩=>?_)
 cases d with
 |true=>exact ha pins s1 σ H1 Q I1 q1
 |false=>exact hb pins s1 σ H1 Q I1 q1
end
end L2
namespace L2
open PySem PySem.Spec PyProof.Rows
def SqL(K:aa)(H:Hp)(a:Addr)(xs:List V):Prop:=
 Rd H a (.lst xs) ∨
  ∃(o:Obj) (its:Array Value) (n:Nat),K.lookup a=some o∧o.cls = .type "list" ∧ o.dict=none∧o.data = .seq its n∧its.size≤sizeLine∧Vals xs its.toList
def SqT(K:aa)(H:Hp)(a:Addr)(xs:List V):Prop:=
 Rd H a (.tup xs) ∨
  ∃(o:Obj) (its:Array Value) (n:Nat),K.lookup a=some o∧(o.cls = .type "tuple" ∧ o.dict=none)∧o.data = .seq its n∧its.size≤sizeLine∧Vals xs its.toList
def absV:Value->Option V
 |.none=>some .non
 |.bool b=>some (.bl b)
 |.int i _=>some (.int i)
 |.str x _=>some (.str x)
 |.bytes b _=>some (.byt b)
 |.float b _=>some (.flt b)
 |.ref a=>some (.ref a)
 |.type n=>some (.ty n)
 |_=>none
theorem RelV.abs{x:V}{u:Value}(r:RelV x u):absV u=some x:=by
 cases x with
 |non=>cases r;rfl
 |bl _=>cases r;rfl
 |int _=>obtain⟨t,rfl⟩:=r;rfl
 |str _=>obtain⟨t,rfl⟩:=r;rfl
 |byt _=>obtain⟨t,rfl⟩:=r;rfl
 |flt _=>obtain⟨t,rfl⟩:=r;rfl
 |ref _=>cases r;rfl
 |ty _=>cases r;rfl
theorem RelV.inj{x y:V}{u:Value}(r:RelV x u)(q:RelV y u):x=y:=Option.some.inj (r.abs.symm.trans q.abs)
theorem Vals.inj:∀{xs ys:List V} {us:List Value},Vals xs us->Vals ys us->xs=ys
 |_,_,_,.nil,.nil=>rfl
 |_,_,_,.cons r t,.cons r' t'=>by rw [r.inj r',Vals.inj t t']
section
variable{X:Cx}{pins:List (Addr×Obj)}{σ:St}{H:Hp}{s:Shared}{a:Addr}{xs ys:List V}
theorem SqL.of{K:aa}(h:H a=some (.lst xs)):SqL K H a xs:=.inl (.inl h)
theorem SqT.of{K:aa}(h:H a=some (.tup xs)):SqT K H a xs:=.inl (.inl h)
theorem Inv.list(I:Inv X pins σ H s)(h:SqL X.K H a xs):∃its:List Value,Vals xs its∧PlainL s.heap a its.toArray∧xs.length≤sizeLine:=by
 rcases h with h | ⟨o,its,n,hk,hc,hd,hs,hz,r⟩
 ·obtain⟨z,its,n,r,e⟩:=h.ok I.hok
  exact⟨its,r,⟨_,n,e,rfl,rfl,rfl⟩,z⟩
 ·refine⟨its.toList,r,⟨o,n,I.kIn a o hk,hc,hd,by simpa using hs⟩,?_⟩
  have e:=r.length
  simp only [b9]at e
  omega
theorem Inv.tuple(I:Inv X pins σ H s)(h:SqT X.K H a xs):∃its:List Value,Vals xs its∧IsTup s.heap a its.toArray∧xs.length≤sizeLine:=by
 rcases h with h | ⟨o,its,n,hk,hc,hs,hz,r⟩
 ·obtain⟨z,its,r,p⟩:=h.ok I.hok
  exact⟨its,r,p.is,z⟩
 ·refine⟨its.toList,r,⟨o,I.kIn a o hk,hc.1,n,by simpa using hs⟩,?_⟩
  have e:=r.length
  simp only [b9]at e
  omega
theorem Inv.list_inj(I:Inv X pins σ H s)(h:SqL X.K H a xs)(h':SqL X.K H a ys):xs=ys:=by
 obtain⟨its,r,⟨o,n,e,_,_,d⟩,_⟩:=I.list h
 obtain⟨its',r',⟨o',n',e',_,_,d'⟩,_⟩:=I.list h'
 rw [e]at e';cases e'
 rw [d]at d'
 injection d' with d1 _
 have:its=its':=by simpa using congrArg Array.toList d1
 subst this
 exact r.inj r'
theorem Inv.tuple_inj(I:Inv X pins σ H s)(h:SqT X.K H a xs)(h':SqT X.K H a ys):xs=ys:=by
 obtain⟨its,r,⟨o,e,_,n,d⟩,_⟩:=I.tuple h
 obtain⟨its',r',⟨o',e',_,n',d'⟩,_⟩:=I.tuple h'
 rw [e]at e';cases e'
 rw [d]at d'
 injection d' with d1 _
 have:its=its':=by simpa using congrArg Array.toList d1
 subst this
 exact r.inj r'
end
abbrev Cx.wish(X:Cx)(E:Value->Shared->Prop):Cx:={ X with xe:=E }
abbrev Cx.nox(X:Cx):Cx:=X.wish fun _ _=>False
theorem Cx.Ok.wish{X:Cx}(ok:X.Ok)(E:Value->Shared->Prop):(X.wish E).Ok:=
 ⟨ok.mod,ok.kind,ok.glob,ok.blt,ok.above,ok.inj,ok.has,ok.cab,ok.hd,ok.frames,ok.stk,ok.exf,ok.bs,ok.bsz,ok.noex,ok.exfs,ok.funs,ok.frf⟩
theorem Cx.Ok.unwish{X:Cx}{E:Value->Shared->Prop}(ok:(X.wish E).Ok):X.Ok:=
 ⟨ok.mod,ok.kind,ok.glob,ok.blt,ok.above,ok.inj,ok.has,ok.cab,ok.hd,ok.frames,ok.stk,ok.exf,ok.bs,ok.bsz,ok.noex,ok.exfs,ok.funs,ok.frf⟩
section
variable{X:Cx}{pins:List (Addr×Obj)}{σ:St}{H:Hp}{s:Shared}{E:Value->Shared->Prop}
theorem Inv.wish(I:Inv X pins σ H s)(E:Value->Shared->Prop):Inv (X.wish E) pins σ H s:=⟨I.ok.wish E,I.os,I.bare,I.base,I.loc,I.cell,I.free,I.freeC,I.pin,I.hok,I.len⟩
theorem Inv.unwish(I:Inv (X.wish E) pins σ H s):Inv X pins σ H s:=⟨I.ok.unwish,I.os,I.bare,I.base,I.loc,I.cell,I.free,I.freeC,I.pin,I.hok,I.len⟩
theorem SP.unwish{D:Ends}{f:Flow}{s':Shared}(h:SP (X.wish E) pins D f s'):SP X pins D f s':=by
 cases f with
 |next=>obtain⟨σ',H',I,q⟩:=h;exact⟨σ',H',I.unwish,q⟩
 |brk=>obtain⟨σ',H',I,q⟩:=h;exact⟨σ',H',I.unwish,q⟩
 |cont=>obtain⟨σ',H',I,q⟩:=h;exact⟨σ',H',I.unwish,q⟩
 |ret u=>obtain⟨v,σ',H',I,r,q⟩:=h;exact⟨v,σ',H',I.unwish,r,q⟩
theorem PSs.nox{st:List Stmt}{t:TS}(h:PSs X.nox st t):PSs X st t:=fun pins s σ H D I hw=>
 wpAny_mono (h pins s σ H D (I.wish _) hw) (fun _ _ q=>q.unwish) fun _ _ z=>False.elim z
end
section
variable{X:Cx}{st:Stmt}{rest:List Stmt}{t u:TS}{e:Expr}{te:TE}{pos:Pos}
def tNext:TS:=fun D σ H=>D.nx σ H
def tSeq(t u:TS):TS:=fun D σ H=>t { D with nx:=u D } σ H
theorem pss_nil:PSs X [] tNext:=fun _ _ σ H _ I h=>wpAny_execs_nil ⟨σ,H,I,h⟩
theorem x0G(h1:PS X st t)(h2:PSs X rest u):PSs X (st::rest) (tSeq t u):=by
 intro pins s σ H D I h
 refine wpAny_execs_cons (thn (h1 pins s σ H { D with nx:=u D } I h) fun f s1 q=>?_)
 cases f with
 |next=>
  obtain⟨σ',H',I',q⟩:=q
  exact h2 pins s1 σ' H' D I' q
 |ret v=>exact q
 |brk=>exact q
 |cont=>exact q
theorem pss_one(h1:PS X st t):PSs X [st] t:=by
 intro pins s σ H D I h
 refine wpAny_execs_cons (thn (h1 pins s σ H D I h) fun f s1 q=>?_)
 cases f with
 |next=>exact wpAny_execs_nil q
 |ret v=>exact q
 |brk=>exact q
 |cont=>exact q
theorem Inv.quiet{pins:List (Addr×Obj)}{σ:St}{H:Hp}{s:Shared}(I:Inv X pins σ H s):interactive X.env=false:=by simp [interactive,I.ok.kind]
def tDrop(te:TE):TS:=fun D σ H=>te σ H fun _ H1=>D.nx σ H1
theorem z6V(he:PE X e te)(hs:swapsWith e none pos.line X.env=pure false:=by rfl):PS X (.Expr e pos) (tDrop te):=by
 intro pins s σ H D I h
 exact wpAny_Expr_any (thn (he pins s σ H _ I h) fun v s1 ⟨x,H1,I1,r1,q1⟩=>⟨σ,H1,I1,q1⟩) I.quiet hs
def tRet(te:TE):TS:=fun D σ H=>te σ H D.rt
theorem y0I(he:PE X e te):PS X (.Return (some e) pos) (tRet te):=by
 intro pins s σ H D I h
 exact wpAny_Return_some (thn (he pins s σ H _ I h) fun v s1 ⟨x,H1,I1,r1,q1⟩=>⟨x,σ,H1,I1,r1,q1⟩)
def tIfS(c:TT)(t u:TS):TS:=fun D σ H=>c σ H fun b H1=>if b=true then t D σ H1 else u D σ H1
theorem ps_if{c:Expr}{a b:List Stmt}{tc:TT}(hc:PT X c tc)(ha:PSs X a t)(hb:PSs X b u):PS X (.If c a b pos) (tIfS tc t u):=by
 intro pins s σ H D I h
 refine wpAny_If (thn (hc pins s σ H _ I h) fun d s1 ⟨H1,I1,q1⟩=>?_)
 cases d with
 |true=>exact ha pins s1 σ H1 D I1 q1
 |false=>exact hb pins s1 σ H1 D I1 q1
end
abbrev TG:=V->St->Hp->(St->Hp->Prop)->Prop
abbrev TGs:=List V->St->Hp->(St->Hp->Prop)->Prop
def PG(X:Cx)(target:Expr)(t:TG):Prop:=
 ∀(pins:List (Addr×Obj)) (s:Shared) (σ:St) (H:Hp) (v:V) (u:Value) (Q:St->Hp->Prop),Inv X pins σ H s->RelV v u->t v σ H Q →
  wpAny (model X.prog X.w) X.A (assign target X.env u) (fun _ s'=>∃σ' H',Inv X pins σ' H' s'∧Q σ' H') X.xe s
def PGs(X:Cx)(ts:List Expr)(t:TGs):Prop:=
 ∀(pins:List (Addr×Obj)) (s:Shared) (σ:St) (H:Hp) (vs:List V) (us:List Value) (Q:St->Hp->Prop),Inv X pins σ H s->Vals vs us->t vs σ H Q →
  wpAny (model X.prog X.w) X.A (assignInOrder ((assignEach ts X.env).map (·.2)) us) (fun _ s'=>∃σ' H',Inv X pins σ' H' s'∧Q σ' H') X.xe s
abbrev TSet:=V->V->V->Hp->(Hp->Prop)->Prop
def PSet(X:Cx)(t:TSet):Prop:=
 ∀(pins:List (Addr×Obj)) (s:Shared) (σ:St) (H:Hp) (o i v:V) (ov iv u:Value) (Q:Hp->Prop),Inv X pins σ H s->RelV o ov->RelV i iv->RelV v u->t o i v H Q →
  wpAny (model X.prog X.w) X.A (setItem ov iv u) (fun _ s'=>∃H',Inv X pins σ H' s'∧Q H') X.xe s
section
variable{X:Cx}{pos:Pos}
def z2r(i:Nat):TG:=fun v σ H Q=>Q (σ.set i (some v)) H
theorem z0l{i:Nat}{x:Str}(hN:X.N.Nodup)(hi:X.N[i]? = some x)(hx:Loc X.env.scope x)(hf:X.fn x=true∨X.env.scope.names.lookup x=some .local:=by first | exact .inl rfl | exact .inr rfl | assumption):PG X (.Name x pos) (z2r i):=by
 intro pins s σ H v u Q I r h
 exact wpAny_assign_Name (y3x I hN hi hx r (fun s' I'=>⟨_,H,I',h⟩) hf)
def gNil:TGs:=fun vs σ H Q=>vs=[]∧Q σ H
def y6M(t:TG)(u:TGs):TGs:=fun vs σ H Q=>∃v r,vs=v::r∧t v σ H fun σ' H'=>u r σ' H' Q
theorem y5X:PGs X [] gNil:=by
 intro pins s σ H vs us Q I r h
 obtain⟨e,h⟩:=h
 subst e
 cases r
 exact assignInOrder_nil ⟨σ,H,I,h⟩
theorem z6l{e:Expr}{es:List Expr}{t:TG}{u:TGs}(h1:PG X e t)(h2:PGs X es u)
  (hs:(assignEach (e::es) X.env).map (·.2)=assign e X.env::(assignEach es X.env).map (·.2):=by rfl):PGs X (e::es) (y6M t u):=by
 intro pins s σ H vs us Q I r h
 obtain⟨v,vr,e1,h⟩:=h
 subst e1
 cases r with
 |cons r rr=>
  rw [hs]
  refine assignInOrder_cons (thn (h1 pins s σ H _ _ _ I r h) fun _ s1 ⟨σ1,H1,I1,q1⟩=>?_)
  exact h2 pins s1 σ1 H1 _ _ Q I1 rr q1
def gTup(K:aa)(n:Nat)(t:TGs):TG:=fun v σ H Q=>∃a xs,v = .ref a∧SqT K H a xs∧xs.length=n∧t xs σ H Q
theorem x3y{es:List Expr}{k:Nat}{t:TGs}{n:Nat}(hc:X.calm=true)(h:PGs X es t)
  (hn:(assignEach es X.env).length=n:=by rfl) (hst:(assignEach es X.env).findIdx? (·.1)=none:=by rfl):PG X (.Tuple es k pos) (gTup X.K n t):=by
 intro pins s σ H v u Q I r hw
 obtain⟨a,xs,e1,hq,hl,hw⟩:=hw
 subst e1
 cases r
 obtain⟨its,rv,ht,hz⟩:=I.tuple hq
 refine assign_Tuple_tuple (I.ok.hd hc) ht (by simp [hn,←hl,rv.length]) hst fun h' hx=>?_
 have I1:Inv X pins σ H { s with heap:=h' }:=I.kept (t':=s.toks) fun b o e=>hx b o (aC (Heap.lt_size e)) e
 exact h pins _ σ H xs _ Q I1 (by simpa using rv) hw
def gSub(to ti:TE)(t:TSet):TG:=fun v σ H Q=>to σ H fun o H1=>ti σ H1 fun i H2=>t o i v H2 fun H3=>Q σ H3
theorem x3d{o i:Expr}{to ti:TE}{t:TSet}(ho:PE X o to)(hi:PE X i ti)(hs:PSet X t)
  (ha:∀v,assign (.Subscript o i pos) X.env v=(do
   let ov ←holding [v] (eval o X.env)
   let iv ←holding [v,ov] (eval i X.env)
   standAt pos
   holding [v,ov,iv] (setItem ov iv v)
   release [v,ov,iv] []):=by intro _;rfl):PG X (.Subscript o i pos) (gSub to ti t):=by
 intro pins s σ H v u Q I r h
 rw [ha]
 refine wpAny_bind (wpAny_holding (thn (ho pins s σ H _ I h) fun ov s1 ⟨x,H1,I1,r1,q1⟩=>?_))
 refine wpAny_bind (wpAny_holding (thn (hi pins s1 σ H1 _ I1 q1) fun iv s2 ⟨y,H2,I2,r2,q2⟩=>?_))
 refine wpAny_bind (wpAny_standAt (wpAny_bind (wpAny_holding (thn (hs pins s2 σ H2 x y v ov iv u _ I2 r1 r2 r q2) fun _ s3 ⟨H3,I3,q3⟩=>?_))))
 exact wpAny_release ⟨σ,H3,I3,q3⟩
def tAsg(te:TE)(g:TG):TS:=fun D σ H=>te σ H fun x H1=>g x σ H1 D.nx
theorem x2q{tg e:Expr}{te:TE}{g:TG}(he:PE X e te)(hg:PG X tg g)(hs:swapsWithSole [tg] e pos.line X.env=pure false:=by rfl)(hw:swappedStores [tg] e X.env=pure none:=by rfl)
  (h1:(assignEach [tg] X.env).map (·.2)=[assign tg X.env]:=by rfl):PS X (.Assign [tg] e pos) (tAsg te g):=by
 intro pins s σ H D I h
 refine wpAny_Assign_stores (thn (he pins s σ H _ I h) fun v s1 ⟨x,H1,I1,r1,q1⟩=>?_) hs hw
 rw [h1]
 exact thn (hg pins s1 σ H1 x v _ I1 r1 q1) fun _ s2 q=>q
theorem ps_set{i:Nat}{x:Str}{e:Expr}{te:TE}{pos':Pos}(hN:X.N.Nodup)(hi:X.N[i]? = some x)(hx:Loc X.env.scope x)(he:PE X e te)(hs:swapsWith e (some (.Name x pos')) pos.line X.env=pure false:=by rfl)(hf:X.fn x=true∨X.env.scope.names.lookup x=some .local:=by first | exact .inl rfl | exact .inr rfl | assumption):
  PS X (.Assign [.Name x pos'] e pos) (tAsg te (z2r i)):=by
 intro pins s σ H D I h
 refine wpAny_Assign_Name (thn (he pins s σ H _ I h) fun v s1 ⟨y,H1,I1,r1,q1⟩=>?_) hs
 exact y3x I1 hN hi hx r1 (fun s2 I2=>⟨_,H1,I2,q1⟩) hf
end
section
variable{X:Cx}{pos:Pos}
def tWhile(c:TT)(tb:TS):TS:=fun D σ H=>∃W:Nat->St->Hp->Prop,(∃m,W m σ H)∧∀m σ H,W m σ H →
 c σ H fun b H1=>if b=true then ∃N:St->Hp->Prop,(∀σ' H',N σ' H'->∃m',m'<m∧W m' σ' H')∧tb { D with nx:=N,ct:=N,bk:=D.nx } σ H1 else D.nx σ H1
theorem x0J{c:Expr}{body:List Stmt}{tc:TT}{tb:TS}(hp:PassesOwn (model X.prog X.w) X.A X.env X.xe)(hc:PT X c tc)(hb:PSs X body tb):PS X (.While c body [] pos) (tWhile tc tb):=by
 intro pins s σ H D I h
 obtain⟨W,⟨m0,w0⟩,turn⟩:=h
 refine wpAny_While (codeAny_whileLoop (fun n s'=>∃σ' H',Inv X pins σ' H' s'∧W n σ' H') ?_ m0 ⟨σ,H,I,w0⟩)
 rintro n s1 ⟨σ1,H1,I1,w1⟩
 refine wpAny_passesOwn hp (thn (hc pins s1 σ1 H1 _ I1 (turn n σ1 H1 w1)) fun b s2 ⟨H2,I2,q2⟩=>?_)
 cases b with
 |true=>
  obtain⟨N,hN,q2⟩:=q2
  rw [if_pos rfl]
  refine wpAny_passesOwn hp (thn (hb pins s2 σ1 H2 _ I2 q2) fun f s3 q3=>?_)
  cases f with
  |next=>
   obtain⟨σ3,H3,I3,n3⟩:=q3
   obtain⟨m',hm,w3⟩:=hN σ3 H3 n3
   exact⟨m',hm,σ3,H3,I3,w3⟩
  |cont=>
   obtain⟨σ3,H3,I3,n3⟩:=q3
   obtain⟨m',hm,w3⟩:=hN σ3 H3 n3
   exact⟨m',hm,σ3,H3,I3,w3⟩
  |brk=>exact q3
  |ret v=>exact q3
 |false=>
  rw [if_neg ar]
  exact wpAny_execs_nil ⟨σ1,H2,I2,q2⟩
end
structure It where
 go:Nat->Hp->Prop
 yld:Nat->Hp->V->Hp->Prop
 stop:Nat->Hp->Prop
def y0M(X:Cx)(pins:List (Addr×Obj))(H:Hp)(b:Addr):Prop:=
 H b=none∧b≠X.env.locals∧b∉X.fs∧(b∈X.ex∨X.s₀.heap.objs.size≤b)∧(∀x c,X.env.cells.lookup x=some c->c≠b)∧∀p∈X.pn++pins,p.1≠b
theorem Inv.fpOk{X:Cx}{pins:List (Addr×Obj)}{σ:St}{H H':Hp}{s:Shared}{b:Addr}(I:Inv X pins σ H s)(hb:s.heap.objs.size≤b)(hn:H' b=none):y0M X pins H' b:=by
 refine⟨hn,cA (aM I.lt hb),I.nofs hb,.inr (ba I.sz hb),fun x c e z=>?_,fun p hp z=>?_⟩
 ·obtain⟨v,q⟩:=I.cell x c e
  exact absurd (aM q.lt (by rw [z];exact hb)) (bN _)
 ·exact absurd (aM (Heap.lt_size (I.pin p hp).1) (by rw [z];exact hb)) (bN _)
structure Turn(P:Program)(w:World)(K:aa)(tg:Expr)(J:It)(fp:List Addr)(it:Addr)(tn:Nat->Heap->Prop):Prop where
 mem:it∈fp
 obj:∀i h,tn i h->∀b∈fp,∃o,h.get? b=some o∧∀v,o.data≠.cell v
 keep:∀i h h',tn i h->(∀b∈fp,∀o,h.get? b=some o->h'.get? b=some o)->tn i h'
 item:∀(X:Cx),X.prog=P->X.w=w->X.K=K->X.calm=true->∀(i:Nat) (pins:List (Addr×Obj)) (s:Shared) (σ:St) (H:Hp) (E:Value->Shared->Prop),Inv X pins σ H s->(∀b∈fp,y0M X pins H b)->tn i s.heap->J.go i H →
  wpAny (model P w) X.A (pyNext (.ref it)) (fun r s1=>∃u,r=some u ∧
   wpAny (model P w) X.A (letOwnedTupleGo tg (.ref it) u) (fun _ s2=>∃x H',Inv X pins σ H' s2∧RelV x u∧J.yld i H x H'∧tn (i+1) s2.heap∧∀b∈fp,H' b=none) E s1) E s
 done:∀(X:Cx),X.prog=P->X.w=w->X.K=K->X.calm=true->∀(i:Nat) (pins:List (Addr×Obj)) (s:Shared) (σ:St) (H:Hp) (E:Value->Shared->Prop),Inv X pins σ H s->(∀b∈fp,y0M X pins H b)->tn i s.heap->J.stop i H →
  wpAny (model P w) X.A (pyNext (.ref it)) (fun r s1=>r=none∧Inv X pins σ H s1) E s
 self:∀(A:Around) (i:Nat) (s:Shared) (Q:Value->Shared->Prop) (E:Value->Shared->Prop),tn i s.heap->Q (.ref it) s->wpAny (model P w) A (pyIter (.ref it)) Q E s
abbrev TI:=St->Hp->(It->Hp->Prop)->Prop
def PIE(X:Cx)(pins:List (Addr×Obj))(σ:St)(tg:Expr)(R:It->Hp->Prop)(itv:Value)(s2:Shared):Prop:=
 ∃(it:Addr) (fp:List Addr) (tn:Nat->Heap->Prop) (J:It) (H':Hp),itv = .ref it∧Inv X pins σ H' s2∧Turn X.prog X.w X.K tg J fp it tn∧tn 0 s2.heap∧(∀b∈fp,y0M X pins H' b)∧R J H'
def PI(X:Cx)(tg iter:Expr)(wi:TI):Prop:=
 ∀(pins:List (Addr×Obj)) (s:Shared) (σ:St) (H:Hp) (R:It->Hp->Prop),Inv X pins σ H s->wi σ H R →
  wpAny (model X.prog X.w) X.A (eval iter X.env) (fun v s1=>wpAny (model X.prog X.w) X.A (pyIter v) (PIE X pins σ tg R) X.xe s1) X.xe s
theorem x1p{M:Model}{A:Around}{E:Value->Shared->Prop}{s:Shared}{tg:Expr}{it:Addr}{u:Value}{o:Obj}{n:String}{vs:Array Value}{Q:Unit->Shared->Prop}(ho:s.heap.get? it=some o)(hc:o.cls = .type n)(hd:o.data = .fields vs)
  (hn:["enumerate", "zip", "dict_itemiterator", "dict_reverseitemiterator", "odict_iterator", "itertools.zip_longest", "itertools.pairwise"].contains n=false) (hQ:Q () s):wpAny M A (letOwnedTupleGo tg (.ref it) u) Q E s:=by
 unfold letOwnedTupleGo
 cases tg <;> first
  |exact wpAny_pure hQ
  | (cases u <;> first
    |exact wpAny_pure hQ
    | (refine wpAny_bind (wpAny_load ho ?_)
       rw [hc,hd]
       show wpAny M A (if(["enumerate", "zip", "dict_itemiterator", "dict_reverseitemiterator", "odict_iterator", "itertools.zip_longest", "itertools.pairwise"].contains n&&vs[0]? == some (rawInt _))=true then _ else _) Q E s
       rw [if_neg (by intro h;rw [hn,dv]at h;cases h)]
       exact wpAny_pure hQ))
def Itl(K:aa)(a:Addr):It:=
 ⟨fun i H=>∃xs x,SqL K H a xs∧xs[i]? = some x,fun i H x H'=>H'=H∧∀xs,SqL K H a xs->xs[i]? = some x,fun i H=>∃xs,SqL K H a xs∧xs.length≤i⟩
def Itt(K:aa)(a:Addr):It:=
 ⟨fun i H=>∃xs x,SqT K H a xs∧xs[i]? = some x,fun i H x H'=>H'=H∧∀xs,SqT K H a xs->xs[i]? = some x,fun i H=>∃xs,SqT K H a xs∧xs.length≤i⟩
def Itr(lo:Int)(n:Nat):It:=⟨fun i _=>i<n,fun i H x H'=>H'=H∧x = .int (lo+i),fun i _=>n≤i⟩
theorem y6A{P:Program}{w:World}{K:aa}{tg:Expr}(a it:Addr):Turn P w K tg (Itl K a) [it] it (fun i h=>h.IsListIter it a i) where
 mem:=by simp
 obj:=fun i h st b hb=>by
  have e:b=it:=by simpa using hb
  subst e
  obtain⟨o,e,c,d⟩:=st
  exact⟨o,e,fun v z=>by rw [d]at z;cases z⟩
 keep:=fun i h h' st k=>st.at fun o e=>k it (by simp) o e
 item:=by
  intro X hP hw hK hc i pins s σ H E I hf st hg
  subst hP hw hK
  obtain⟨xs,x,hq,hx⟩:=hg
  obtain⟨its,rv,p,hz⟩:=I.list hq
  obtain⟨u,hu,ru⟩:=rv.get hx
  obtain⟨f0,f1,f2,f3,f4,f5⟩:=hf it (by simp)
  refine wpAny_pyNext_list_item st p.isList (x:=u) (by simpa using hu) fun h' st' sb=>?_
  have I1:Inv X pins σ H { s with heap:=h' }:=I.turned (t':=s.toks) (fun b o hb e=>(sb.2 b hb).trans e) f0 f1 f3 f4 f5
  obtain⟨o,e,c,d⟩:=id st'
  exact⟨u,rfl,x1p (s:={ s with heap:=h' }) e c d (by decide) ⟨x,H,I1,ru,⟨rfl,fun ys hy=>by rw [I.list_inj hy hq];exact hx⟩,st',fun b hb=>(hf b hb).1⟩⟩
 done:=by
  intro X hP hw hK hc i pins s σ H E I hf st hg
  subst hP hw hK
  obtain⟨xs,hq,hx⟩:=hg
  obtain⟨its,rv,p,hz⟩:=I.list hq
  obtain⟨f0,f1,f2,f3,f4,f5⟩:=hf it (by simp)
  have hl:=rv.length
  exact wpAny_pyNext_list_end (I.ok.hd hc) st p.isList (by simp;omega) fun h' eb=>⟨rfl,I.turned (t':=s.toks) (fun b o hb e=>eb b o hb e) f0 f1 f3 f4 f5⟩
 self:=fun _ _ _ _ _ st h=>wpAny_pyIter_listiter st h
theorem y4O{P:Program}{w:World}{K:aa}{tg:Expr}(a it:Addr):Turn P w K tg (Itt K a) [it] it (fun i h=>h.IsTupleIter it a i) where
 mem:=by simp
 obj:=fun i h st b hb=>by
  have e:b=it:=by simpa using hb
  subst e
  obtain⟨o,e,c,d⟩:=st
  exact⟨o,e,fun v z=>by rw [d]at z;cases z⟩
 keep:=fun i h h' st k=>st.at fun o e=>k it (by simp) o e
 item:=by
  intro X hP hw hK hc i pins s σ H E I hf st hg
  subst hP hw hK
  obtain⟨xs,x,hq,hx⟩:=hg
  obtain⟨its,rv,p,hz⟩:=I.tuple hq
  obtain⟨u,hu,ru⟩:=rv.get hx
  obtain⟨f0,f1,f2,f3,f4,f5⟩:=hf it (by simp)
  refine wpAny_pyNext_tuple_item st (show s.heap.IsTuple a its.toArray from p) (x:=u) (by simpa using hu) fun h' st' sb=>?_
  have I1:Inv X pins σ H { s with heap:=h' }:=I.turned (t':=s.toks) (fun b o hb e=>(sb.2 b hb).trans e) f0 f1 f3 f4 f5
  obtain⟨o,e,c,d⟩:=id st'
  exact⟨u,rfl,x1p (s:={ s with heap:=h' }) e c d (by decide) ⟨x,H,I1,ru,⟨rfl,fun ys hy=>by rw [I.tuple_inj hy hq];exact hx⟩,st',fun b hb=>(hf b hb).1⟩⟩
 done:=by
  intro X hP hw hK hc i pins s σ H E I hf st hg
  subst hP hw hK
  obtain⟨xs,hq,hx⟩:=hg
  obtain⟨its,rv,p,hz⟩:=I.tuple hq
  obtain⟨f0,f1,f2,f3,f4,f5⟩:=hf it (by simp)
  have hl:=rv.length
  exact wpAny_pyNext_tuple_end (I.ok.hd hc) st (show s.heap.IsTuple a its.toArray from p) (by simp;omega) fun h' eb=>⟨rfl,I.turned (t':=s.toks) (fun b o hb e=>eb b o hb e) f0 f1 f3 f4 f5⟩
 self:=fun _ _ _ _ _ st h=>wpAny_pyIter_tupleiter st h
theorem y4N{P:Program}{w:World}{K:aa}{tg:Expr}(it:Addr)(lo:Int)(n:Nat):Turn P w K tg (Itr lo n) [it] it (fun i h=>IsRangeIter h it (lo+(i:Nat)*1) ((n:Int) - (i:Nat)) 1) where
 mem:=by simp
 obj:=fun i h st b hb=>by
  have e:b=it:=by simpa using hb
  subst e
  exact⟨_,st,fun v z=>by
   have z':Data.fields _=Data.cell v:=z
   cases z'⟩
 keep:=fun i h h' st k=>k it (by simp) _ st
 item:=by
  intro X hP hw hK hc i pins s σ H E I hf st hg
  subst hP hw hK
  obtain⟨f0,f1,f2,f3,f4,f5⟩:=hf it (by simp)
  have W:=Walks.range (prog:=X.prog) (w:=X.w) (I.ok.hd hc) it lo 1 n
  refine W.item i s _ _ hg st fun v h' tk hv st' kk=>?_
  obtain⟨t,rfl⟩:=hv
  have I1:Inv X pins σ H { s with heap:=h',toks:=tk }:=I.turned (fun b o hb e=>kk b o (by simpa using hb) e) f0 f1 f3 f4 f5
  refine⟨_,rfl,x1p (s:={ s with heap:=h',toks:=tk }) (n := "range_iterator") st' rfl rfl (by decide) ⟨.int (lo+i),H,I1,⟨t,?_⟩,⟨rfl,rfl⟩,st',fun b hb=>(hf b hb).1⟩⟩
  rw [Int.mul_one]
 done:=by
  intro X hP hw hK hc i pins s σ H E I hf st hg
  subst hP hw hK
  obtain⟨f0,f1,f2,f3,f4,f5⟩:=hf it (by simp)
  exact wpAny_pyNext_range_end (I.ok.hd hc) st (by have:n≤i:=hg;omega) fun h' eb=>⟨rfl,I.turned (t':=s.toks) (fun b o hb e=>eb b o hb e) f0 f1 f3 f4 f5⟩
 self:=fun _ _ _ _ _ st h=>wpAny_pyIter_rangeiter st h
end L2
namespace L2
open PySem PySem.Spec PyProof.Rows
section
variable{X:Cx}{tg:Expr}
theorem y3S{pins:List (Addr×Obj)}{σ:St}{H:Hp}{s:Shared}{R:It->Hp->Prop}{E:Value->Shared->Prop}{lo hi:Int}{t u v:Tok}{tk:Nat}(I:Inv X pins σ H s)(h1:-(2 ^ 62)≤lo)(h2:lo<2 ^ 62)(h3:-(2 ^ 62)≤hi)(h4:hi<2 ^ 62)
  (q:R (Itr lo (hi - lo).toNat) H):wpAny (model X.prog X.w) X.A (pyIter (.ref s.heap.objs.size)) (PIE X pins σ tg R) E { s with heap:=s.heap.push { cls:=.type "range",data:=.fields #[.int lo t,.int hi u,.int 1 v] },toks:=tk }:=by
 refine wpAny_pyIter_range (IsRange.new ..) (small_one h1 h2 h3 h4) ?_
 have I1:Inv X pins σ H { s with heap:=s.heap.push { cls:=.type "range",data:=.fields #[.int lo t,.int hi u,.int 1 v] },toks:=tk }:=I.kept fun b o e=>Heap.get?_push_of_some _ e
 refine⟨(s.heap.push { cls:=.type "range",data:=.fields #[.int lo t,.int hi u,.int 1 v] }).objs.size,[(s.heap.push { cls:=.type "range",data:=.fields #[.int lo t,.int hi u,.int 1 v] }).objs.size],_,_,H,rfl,
  I1.kept (t':=tk) fun b o e=>Heap.get?_push_of_some _ e,y4N _ lo (hi - lo).toNat,?_,fun b hb=>?_,q⟩
 ·have e1:lo+((0:Nat):Int)*1=lo:=by simp
  have e2:(((hi - lo).toNat:Nat):Int) - ((0:Nat):Int)=Builtin.Range.rangeSize lo hi 1:=by rw [rangeSize_one];split <;> omega
  show IsRangeIter _ _ (lo+((0:Nat):Int)*1) ((((hi - lo).toNat:Nat):Int) - ((0:Nat):Int)) 1
  rw [e1,e2]
  exact Heap.get?_push_size _ rfl
 ·have e:b=(s.heap.push { cls:=.type "range",data:=.fields #[.int lo t,.int hi u,.int 1 v] }).objs.size:=by simpa using hb
  subst e
  exact I1.fpOk (ao _) (I1.hok.fresh (ao _))
def iRng1(ta:TA):TI:=fun σ H R=>ta σ H fun vs H1=>∃j:Int,vs=[.int j]∧-(2 ^ 62)≤j∧j<2 ^ 62∧R (Itr 0 j.toNat) H1
def iRng2(ta:TA):TI:=fun σ H R=>ta σ H fun vs H1=>∃i j:Int,vs=[.int i,.int j]∧(-(2 ^ 62)≤i∧i<2 ^ 62∧-(2 ^ 62)≤j∧j<2 ^ 62)∧R (Itr i (j - i).toNat) H1
theorem y0C{a:Expr}{ta:TA}{p pos:Pos}(hg:Gl X "range")(hm:X.mg "range" = none)(ha:PA X [a] ta)(hs:starEach [a] X.env=[(false,eval a X.env)]:=by rfl):PI X tg (.Call (.Name "range" p) [a] [] pos) (iRng1 ta):=by
 intro pins s σ H R I h
 refine Call_ (z4r I hg hm boot_range (PyProof.Rows.callWith_type1 (thn (ha pos pins s σ H _ I h) fun us s1 ⟨vs,H1,I1,r1,q1⟩=>?_) hs rfl))
 obtain⟨j,e,q1,q2,q⟩:=q1
 subst e
 cases r1 with
 |cons r rr=>
  cases rr
  obtain⟨t,rfl⟩:=r
  exact call_range_1 (y3S I1 (by omega) (by omega) q1 q2 (by simpa using q))
theorem y9p{a b:Expr}{ta:TA}{p pos:Pos}(hg:Gl X "range")(hm:X.mg "range" = none)(ha:PA X [a,b] ta)(hs:starEach [a,b] X.env=[(false,eval a X.env),(false,eval b X.env)]:=by rfl)(hs2:starEach [b] X.env=[(false,eval b X.env)]:=by rfl):
  PI X tg (.Call (.Name "range" p) [a,b] [] pos) (iRng2 ta):=by
 intro pins s σ H R I h
 refine Call_ (z4r I hg hm boot_range (PyProof.Rows.callWith_type1 (thn (ha pos pins s σ H _ I h) fun us s1 ⟨vs,H1,I1,r1,q1⟩=>?_) (by rw [hs,hs2]) (by rw [hs2];rfl)))
 obtain⟨i,j,e,⟨q1,q2,q3,q4⟩,q⟩:=q1
 subst e
 cases r1 with
 |cons r rr=>
  cases rr with
  |cons r' rr=>
   cases rr
   obtain⟨t,rfl⟩:=r
   obtain⟨t',rfl⟩:=r'
   exact call_range_2 (y3S I1 q1 q2 q3 q4 q)
def tFor(wi:TI)(g:TG)(tb:TS):TS:=fun D σ H=>wi σ H fun J H1=>∃W:Nat->Nat->St->Hp->Prop,(∃m,W 0 m σ H1)∧∀i m σ H,W i m σ H →
 (J.stop i H∧D.nx σ H)∨(J.go i H∧∃N:St->Hp->Prop,(∀σ' H',N σ' H'->∃m',m'<m∧W (i+1) m' σ' H')∧∀x H',J.yld i H x H'->g x σ H' fun σ2 H2=>tb { D with nx:=N,ct:=N,bk:=D.nx } σ2 H2)
def y0B(fp:List Addr)(h:Heap):List (Addr×Obj):=fp.filterMap fun b=>(h.get? b).map fun o=>(b,o)
theorem z4l{fp:List Addr}{h:Heap}{b:Addr}{o:Obj}(hb:b∈fp)(e:h.get? b=some o):(b,o)∈y0B fp h:=fF.mpr ⟨b,hb,by rw [e];rfl⟩
theorem y6Z{fp:List Addr}{h:Heap}{p:Addr×Obj}(hp:p∈y0B fp h):p.1∈fp∧h.get? p.1=some p.2:=by
 obtain⟨b,hb,e⟩:=fF.mp hp
 cases q:h.get? b with
 |none=>rw [q]at e;cases e
 |some o=>
  rw [q]at e
  have e':(b,o)=p:=Option.some.inj e
  subst e'
  exact⟨hb,q⟩
theorem Inv.pinned{pins:List (Addr×Obj)}{σ:St}{H:Hp}{s:Shared}{fp:List Addr}(I:Inv X pins σ H s)(hf:∀b∈fp,y0M X pins H b)(ho:∀b∈fp,∃o,s.heap.get? b=some o∧∀v,o.data≠.cell v):Inv X (pins++y0B fp s.heap) σ H s:=
 I.pins_of fun p hp=>(ay.mp hp).elim (fun z=>I.pin p (aT _ z)) fun z=>by
  obtain⟨hb,e⟩:=y6Z z
  obtain⟨f0,f1,f2,_⟩:=hf p.1 hb
  obtain⟨o,e',d⟩:=ho p.1 hb
  rw [e]at e';cases e'
  exact⟨e,f0,f1,f2,d⟩
theorem Inv.unpinned{pins pl:List (Addr×Obj)}{σ:St}{H:Hp}{s:Shared}(I:Inv X (pins++pl) σ H s):Inv X pins σ H s:=I.pins_of fun p hp=>I.pin p (aT _ (cM _ hp))
theorem y7k{iter:Expr}{body:List Stmt}{wi:TI}{g:TG}{tb:TS}{pos:Pos}(hp:PassesOwn (model X.prog X.w) X.A X.env X.xe)(hc:X.calm=true)(hi:PI X tg iter wi)(hg:PG X tg g)(hb:PSs X body tb)
  (hs:∀x,foldedSetIterable iter X.env x=pure x:=by intro _;rfl):PS X (.For tg iter body [] pos) (tFor wi g tb):=by
 intro pins s σ H D I h
 refine wpAny_For (thn (hi pins s σ H _ I h) fun v s1 h1=>thn h1 fun itv s2 h2=>?_) hs
 obtain⟨it,fp,tn,J,H2,e,I2,T,st2,f2,W,⟨m0,w0⟩,turn⟩:=h2
 subst e
 have stat:∀{H':Hp},(∀b∈fp,H' b=none)->∀b∈fp,y0M X pins H' b:=fun hn b hb=>⟨hn b hb,(f2 b hb).2⟩
 refine codeAny_forLoop_any (fun n s'=>∃i σ' H',Inv X pins σ' H' s'∧tn i s'.heap∧(∀b∈fp,H' b=none)∧W i n σ' H') ?_ m0 ⟨0,σ,H2,I2,st2,fun b hb=>(f2 b hb).1,w0⟩
 rintro n s3 ⟨i,σ3,H3,I3,st3,fr3,w3⟩
 rcases turn i n σ3 H3 w3 with⟨stop,qn⟩ | ⟨go,N,hN,step⟩
 ·refine wpAny_passesOwn hp (thn (T.done X rfl rfl rfl hc i pins s3 σ3 H3 X.xe I3 (stat fr3) st3 stop) fun r s4 ⟨hr,I4⟩=>?_)
  subst hr
  exact wpAny_execs_nil ⟨σ3,H3,I4,qn⟩
 ·refine wpAny_passesOwn hp (thn (T.item X rfl rfl rfl hc i pins s3 σ3 H3 X.xe I3 (stat fr3) st3 go) fun r s4 ⟨u,hr,h4⟩=>?_)
  subst hr
  refine wpAny_passesOwn hp (thn h4 fun _ s5 ⟨x,H5,I5,r5,y5,st5,fr5⟩=>?_)
  have I5':=I5.pinned (stat fr5) (T.obj _ _ st5)
  refine wpAny_passesOwn hp (thn (hg _ s5 σ3 H5 x u _ I5' r5 (step x H5 y5)) fun _ s6 ⟨σ6,H6,I6,q6⟩=>?_)
  refine wpAny_passesOwn hp (thn (hb _ s6 σ6 H6 _ I6 q6) fun f s7 q7=>?_)
  have again:∀{σ7:St} {H7:Hp},Inv X (pins++y0B fp s5.heap) σ7 H7 s7->N σ7 H7->∃m,m<n∧∃i σ' H',Inv X pins σ' H' s7∧tn i s7.heap∧(∀b∈fp,H' b=none)∧W i m σ' H':=fun {σ7 H7} I7 n7=>by
   obtain⟨m',hm,w7⟩:=hN σ7 H7 n7
   refine⟨m',hm,i+1,σ7,H7,I7.unpinned,T.keep _ _ _ st5 fun b hb o e=>(I7.pin (b,o) (aT _ (aT _ (z4l hb e)))).1,fun b hb=>?_,w7⟩
   obtain⟨o,e,d⟩:=T.obj _ _ st5 b hb
   exact(I7.pin (b,o) (aT _ (aT _ (z4l hb e)))).2.1
  cases f with
  |next=>obtain⟨σ7,H7,I7,n7⟩:=q7;exact again I7 n7
  |cont=>obtain⟨σ7,H7,I7,n7⟩:=q7;exact again I7 n7
  |brk=>obtain⟨σ7,H7,I7,q7⟩:=q7;exact⟨σ7,H7,I7.unpinned,q7⟩
  |ret v=>obtain⟨x7,σ7,H7,I7,r7,q7⟩:=q7;exact⟨x7,σ7,H7,I7.unpinned,r7,q7⟩
end
end L2
namespace L2
open PySem PySem.Spec PyProof.Rows
abbrev R2:=V->V->Hp->VK->Prop
def OpR(X:Cx)(f:Value->Value->Sem Value)(r:R2):Prop:=
 ∀(pins:List (Addr×Obj)) (s:Shared) (σ:St) (H:Hp) (x y:V) (v u:Value) (Q:VK),Inv X pins σ H s->RelV x v->RelV y u->r x y H Q →
  wpAny (model X.prog X.w) X.A (f v u) (EP X pins σ Q) X.xe s
def UnR(X:Cx)(f:Value->Sem Value)(r:V->Hp->VK->Prop):Prop:=
 ∀(pins:List (Addr×Obj)) (s:Shared) (σ:St) (H:Hp) (x:V) (v:Value) (Q:VK),Inv X pins σ H s->RelV x v->r x H Q →
  wpAny (model X.prog X.w) X.A (f v) (EP X pins σ Q) X.xe s
def z4n(X:Cx)(f:Value)(r:List V->Hp->VK->Prop):Prop:=
 ∀(pins:List (Addr×Obj)) (s:Shared) (σ:St) (H:Hp) (xs:List V) (us:List Value) (Q:VK),Inv X pins σ H s->Vals xs us->r xs H Q →
  wpAny (model X.prog X.w) X.A (call f us) (EP X pins σ Q) X.xe s
def TruR(X:Cx)(r:V->Hp->(Bool->Hp->Prop)->Prop):Prop:=
 ∀(pins:List (Addr×Obj)) (s:Shared) (σ:St) (H:Hp) (x:V) (v:Value) (Q:Bool->Hp->Prop),Inv X pins σ H s->RelV x v->r x H Q →
  wpAny (model X.prog X.w) X.A (truthy v) (TP X pins σ Q) X.xe s
def tOp(r:R2)(ta tb:TE):TE:=fun σ H Q=>ta σ H fun x H1=>tb σ H1 fun y H2=>r x y H2 Q
def tUn(r:V->Hp->VK->Prop)(ta:TE):TE:=fun σ H Q=>ta σ H fun x H1=>r x H1 Q
def rI(C:Int->Int->Prop)(g:Int->Int->V):R2:=fun x y H Q=>∃i j,x = .int i∧y = .int j∧C i j∧Q (g i j) H
def rI0(g:Int->Int->V):R2:=fun x y H Q=>∃i j,x = .int i∧y = .int j∧Q (g i j) H
def rU(g:Int->V):V->Hp->VK->Prop:=fun x H Q=>∃i,x = .int i∧Q (g i) H
section
variable{X:Cx}{a b c:Expr}{ta tb tc:TE}{pos:Pos}
theorem binT(ha:PE X a ta)(hb:PE X b tb){pins:List (Addr×Obj)}{s:Shared}{σ:St}{H:Hp}{R:V->V->Hp->Prop}(I:Inv X pins σ H s)
  (h:ta σ H fun x H1=>tb σ H1 fun y H2=>R x y H2) {Q:Value->Shared->Prop} {f:Value->Value->Sem Value}
  (hf:∀v u s2 x y H2,Inv X pins σ H2 s2->RelV x v->RelV y u->R x y H2->wpAny (model X.prog X.w) X.A (f v u) Q X.xe s2):
  wpAny (model X.prog X.w) X.A (eval a X.env) (fun v s₁=>wpAny (model X.prog X.w) X.A (eval b X.env) (fun u s₂=>wpAny (model X.prog X.w) X.A (f v u) Q X.xe s₂) X.xe s₁) X.xe s:=by
 refine thn (ha pins s σ H _ I h) fun v s1 ⟨x,H1,I1,r1,q1⟩=>?_
 refine thn (hb pins s1 σ H1 _ I1 q1) fun u s2 ⟨y,H2,I2,r2,q2⟩=>?_
 exact hf v u s2 x y H2 I2 r1 r2 q2
theorem pe_op{op:Operator}{r:R2}(ho:OpR X (binaryOp op) r)(ha:PE X a ta)(hb:PE X b tb):PE X (.BinOp a op b pos) (tOp r ta tb):=by
 intro pins s σ H Q I h
 exact wpAny_BinOp (binT ha hb I h fun v u s2 x y H2 I2 rx ry q=>ho pins s2 σ H2 x y v u Q I2 rx ry q)
theorem pe_un{op:UnaryOp}{r:V->Hp->VK->Prop}(ho:UnR X (unaryOp op) r)(ha:PE X a ta):PE X (.UnaryOp op a pos) (tUn r ta):=by
 intro pins s σ H Q I h
 exact UnaryOp_ (thn (ha pins s σ H _ I h) fun v s1 ⟨x,H1,I1,r1,q1⟩=>ho pins s1 σ H1 x v Q I1 r1 q1)
theorem opI{f:Value->Value->Sem Value}{C:Int->Int->Prop}{g:Int->Int->Int}
  (rule:∀(i j:Int) (t u:Tok) (s:Shared) (Q:Value->Shared->Prop) (E:Value->Shared->Prop),C i j->Q (.int (g i j) s.toks) { s with toks:=s.toks+1 }->wpAny (model X.prog X.w) X.A (f (.int i t) (.int j u)) Q E s):
  OpR X f (rI C fun i j=>.int (g i j)):=by
 intro pins s σ H x y v u Q I rx ry h
 obtain⟨i,j,rfl,rfl,hc,q⟩:=h
 obtain⟨t,rfl⟩:=rx
 obtain⟨t',rfl⟩:=ry
 exact rule i j t t' s _ _ hc ⟨.int (g i j),H,I.tok _,⟨_,rfl⟩,q⟩
theorem opI0{f:Value->Value->Sem Value}{g:Int->Int->Int}
  (rule:∀(i j:Int) (t u:Tok) (s:Shared) (Q:Value->Shared->Prop) (E:Value->Shared->Prop),Q (.int (g i j) s.toks) { s with toks:=s.toks+1 }->wpAny (model X.prog X.w) X.A (f (.int i t) (.int j u)) Q E s):
  OpR X f (rI0 fun i j=>.int (g i j)):=by
 intro pins s σ H x y v u Q I rx ry h
 obtain⟨i,j,rfl,rfl,q⟩:=h
 obtain⟨t,rfl⟩:=rx
 obtain⟨t',rfl⟩:=ry
 exact rule i j t t' s _ _ ⟨.int (g i j),H,I.tok _,⟨_,rfl⟩,q⟩
theorem opB0{f:Value->Value->Sem Value}{g:Int->Int->Bool}
  (rule:∀(i j:Int) (t u:Tok) (s:Shared) (Q:Value->Shared->Prop) (E:Value->Shared->Prop),Q (.bool (g i j)) s->wpAny (model X.prog X.w) X.A (f (.int i t) (.int j u)) Q E s):
  OpR X f (rI0 fun i j=>.bl (g i j)):=by
 intro pins s σ H x y v u Q I rx ry h
 obtain⟨i,j,rfl,rfl,q⟩:=h
 obtain⟨t,rfl⟩:=rx
 obtain⟨t',rfl⟩:=ry
 exact rule i j t t' s _ _ ⟨.bl (g i j),H,I,rfl,q⟩
def CDiv(i j:Int):Prop:=0<j∧j<1073741824
def x2f(i j:Int):Prop:=j≠0∧j.natAbs<1073741824
def CPow(i j:Int):Prop:=0≤j∧j≤1000000∧i.natAbs<2 ^ 64
def CMul(i j:Int):Prop:=(-(2 ^ 64)<i∧i<2 ^ 64)∨(-(2 ^ 64)<j∧j<2 ^ 64)
theorem CMul.ok{i j:Int}(h:CMul i j):IntMulOk i j:=by
 rcases h with⟨h1,h2⟩ | ⟨h1,h2⟩
 ·exact .of_left (intBits_le_64 h1 h2)
 ·exact .of_right (intBits_le_64 h1 h2)
theorem op_add:OpR X (binaryOp .Add) (rI0 fun i j=>.int (i+j)):=opI0 fun _ _ _ _ _ _ _ q=>add_int q
theorem op_sub:OpR X (binaryOp .Sub) (rI0 fun i j=>.int (i - j)):=opI0 fun _ _ _ _ _ _ _ q=>sub_int q
theorem op_mul:OpR X (binaryOp .Mult) (rI CMul fun i j=>.int (i*j)):=opI fun _ _ _ _ _ _ _ hc q=>mul_int q hc.ok
theorem op_fdiv:OpR X (binaryOp .FloorDiv) (rI CDiv fun i j=>.int (i / j)):=opI fun i j _ _ _ _ _ hc q=>by
 have h1:(0:Int)<j:=hc.1
 have h2:j<1073741824:=hc.2
 exact floordiv_int (by omega) (by rw [Int.fdiv_eq_ediv_of_nonneg i (by omega)];exact q) (.inl (PyProof.noPylong_small (by omega)))
theorem x0g:OpR X (binaryOp .FloorDiv) (rI x2f fun i j=>.int (i.fdiv j)):=opI fun _ _ _ _ _ _ _ hc q=>floordiv_int hc.1 q (.inl (PyProof.noPylong_small hc.2))
theorem op_mod:OpR X (binaryOp .Mod) (rI (fun _ j=>0<j) fun i j=>.int (i % j)):=opI fun i j _ _ _ _ _ hc q=>by
 have h1:(0:Int)<j:=hc
 exact mod_int' (by omega) (by rw [Int.fmod_eq_emod_of_nonneg i (by omega)];exact q)
theorem unI{f:Value->Sem Value}{g:Int->Int}
  (rule:∀(i:Int) (t:Tok) (s:Shared) (Q:Value->Shared->Prop) (E:Value->Shared->Prop),Q (.int (g i) s.toks) { s with toks:=s.toks+1 }->wpAny (model X.prog X.w) X.A (f (.int i t)) Q E s):
  UnR X f (rU fun i=>.int (g i)):=by
 intro pins s σ H x v Q I rx h
 obtain⟨i,rfl,q⟩:=h
 obtain⟨t,rfl⟩:=rx
 exact rule i t s _ _ ⟨.int (g i),H,I.tok _,⟨_,rfl⟩,q⟩
theorem un_neg:UnR X (unaryOp .USub) (rU fun i=>.int (-i)):=unI fun _ _ _ _ _ q=>neg_int q
end
section
variable{X:Cx}{a b c:Expr}{ta tb tc:TE}{pos:Pos}
theorem op_lt:OpR X (compareOp .Lt) (rI0 fun i j=>.bl (decide (i<j))):=opB0 fun _ _ _ _ _ _ _ q=>lt_int q
theorem op_le:OpR X (compareOp .LtE) (rI0 fun i j=>.bl (decide (i≤j))):=opB0 fun _ _ _ _ _ _ _ q=>le_int q
theorem op_gt:OpR X (compareOp .Gt) (rI0 fun i j=>.bl (decide (j<i))):=opB0 fun _ _ _ _ _ _ _ q=>gt_int q
theorem z8A(b:Expr){op:CmpOp}(h:op≠.In:=by decide)(h2:op≠.NotIn:=by decide):behindInMarks op b=false:=by
 have e1:(op==CmpOp.In)=false:=by cases op <;> first | rfl | exact absurd rfl h
 have e2:(op==CmpOp.NotIn)=false:=by cases op <;> first | rfl | exact absurd rfl h2
 cases b <;> simp [behindInMarks,e1,e2]
theorem pe_cmpR{op:CmpOp}{r:R2}(ho:OpR X (compareOp op) r)(ha:PE X a ta)(hb:PE X b tb)(hm:behindInMarks op b=false):PE X (.Compare a [op] [b] pos) (tOp r ta tb):=by
 intro pins s σ H Q I h
 exact wpAny_Compare1 (binT ha hb I h fun v u s2 x y H2 I2 rx ry q=>ho pins s2 σ H2 x y v u Q I2 rx ry q) hm
def tTest(t:TE):TT:=fun σ H Q=>t σ H fun x H'=>∃k,x = .bl k∧Q k H'
theorem pt_cmpR{op:CmpOp}{r:R2}(ho:OpR X (compareOp op) r)(ha:PE X a ta)(hb:PE X b tb)(hm:behindInMarks op b=false):PT X (.Compare a [op] [b] pos) (tTest (tOp r ta tb)):=by
 intro pins s σ H Q I h
 refine wpAny_isTrue_Compare1 (thn (ha pins s σ H _ I h) fun v s1 ⟨x,H1,I1,r1,q1⟩=>thn (hb pins s1 σ H1 _ I1 q1) fun u s2 ⟨y,H2,I2,r2,q2⟩=>
  thn (ho pins s2 σ H2 x y v u _ I2 r1 r2 q2) fun c s3 ⟨z,H3,I3,r3,k,e,q3⟩=>?_) hm
 subst e
 cases r3
 exact wpAny_truthy_bool ⟨H3,I3,q3⟩
def x2n(r r':R2)(ta tb tc:TE):TE:=fun σ H Q=>ta σ H fun x H1=>tb σ H1 fun y H2=>r x y H2 fun z H3=>∃k,z = .bl k ∧
 (if k=true then tc σ H3 fun w' H4=>r' y w' H4 Q else Q (.bl false) H3)
theorem x1X{op op':CmpOp}{r r':R2}(ho:OpR X (compareOp op) r)(ho':OpR X (compareOp op') r')(ha:PE X a ta)(hb:PE X b tb)(hc:PE X c tc)
  (hm:lastMarks [op,op'] [b,c]=false:=by with_unfolding_all rfl):PE X (.Compare a [op,op'] [b,c] pos) (x2n r r' ta tb tc):=by
 intro pins s σ H Q I h
 refine Compare_chain (thn (ha pins s σ H _ I h) fun v s1 ⟨x,H1,I1,r1,q1⟩=>chain_link (thn (hb pins s1 σ H1 _ I1 q1) fun u s2 ⟨y,H2,I2,r2,q2⟩=>
  thn (ho pins s2 σ H2 x y v u _ I2 r1 r2 q2) fun d s3 ⟨z,H3,I3,r3,k,e,q3⟩=>?_)) hm
 subst e
 cases r3
 refine wpAny_truthy_bool ?_
 cases k with
 |false=>exact ite_ff ⟨.bl false,H3,I3,rfl,q3⟩
 |true=>exact ite_tt (chain_last (thn (hc pins s3 σ H3 _ I3 q3) fun w' s4 ⟨z',H4,I4,r4,q4⟩=>ho' pins s4 σ H4 y z' u w' Q I4 r2 r4 q4))
def TruV(K:aa)(x:V)(H:Hp)(k:Bool):Prop:=
 match x with
 |.non=>k=false
 |.bl b=>k=b
 |.int i=>k=(i != 0)
 |.str y=>y.length≤sizeLine∧k=((y.length:Int) != 0)
 |.byt y=>y.size≤sizeLine∧k=((y.size:Int) != 0)
 |.ref p=>(∃xs,SqL K H p xs∧k = !xs.isEmpty)∨(∃xs,SqT K H p xs∧k = !xs.isEmpty)∨∃kvs,H p=some (.dK kvs)∧k = !kvs.isEmpty
 |_=>False
theorem y5h{κ:Type}{kvs:List (κ×V)}{vs:List (κ×Value)}(r:KV kvs vs):(!vs.isEmpty) = !kvs.isEmpty:=by
 cases r <;> rfl
theorem z8t{xs:List V}{its:List Value}(r:Vals xs its):(!its.toArray.isEmpty) = !xs.isEmpty:=by
 cases r <;> simp
theorem z8q:(sizeLine:Nat)<2 ^ 63:=by rw [sizeLine_eq];decide
theorem tru_ok:TruR X (fun x H Q=>∃k,TruV X.K x H k∧Q k H):=by
 intro pins s σ H x v Q I rx h
 obtain⟨k,e,q⟩:=h
 have hl:=z8q
 have hs:sizeLine=16777216:=sizeLine_eq
 cases x with
 |non=>
  cases rx
  have e':k=false:=e
  subst e'
  exact truthy_none ⟨H,I,q⟩
 |bl b=>
  cases rx
  have e':k=b:=e
  subst e'
  exact wpAny_truthy_bool ⟨H,I,q⟩
 |int i=>
  obtain⟨t,rfl⟩:=rx
  have e':k=(i != 0):=e
  subst e'
  exact PySem.P.truthy_int ⟨H,I,q⟩
 |str y=>
  obtain⟨t,rfl⟩:=rx
  obtain⟨hy,e'⟩:y.length≤sizeLine∧k=((y.length:Int) != 0):=e
  subst e'
  exact PySem.P.truthy_str (by omega) ⟨H,I.tok _,q⟩
 |byt y=>
  obtain⟨t,rfl⟩:=rx
  obtain⟨hy,e'⟩:y.size≤sizeLine∧k=((y.size:Int) != 0):=e
  subst e'
  exact PySem.W.truthy_bytes (by omega) ⟨H,I.tok _,q⟩
 |ref p=>
  cases rx
  have e':(∃xs,SqL X.K H p xs∧k = !xs.isEmpty)∨(∃xs,SqT X.K H p xs∧k = !xs.isEmpty)∨∃kvs,H p=some (.dK kvs)∧k = !kvs.isEmpty:=e
  rcases e' with⟨xs,hx,e'⟩ | ⟨xs,hx,e'⟩ | ⟨kvs,hx,e'⟩
  ·subst e'
   obtain⟨its,r,pl,hz⟩:=I.list hx
   have hlen:=r.length
   exact wpAny_truthy_list pl.isList (by simp only [aD];omega) ⟨H,I.tok _,by rw [z8t r];exact q⟩
  ·subst e'
   obtain⟨its,r,pl,hz⟩:=I.tuple hx
   have hlen:=r.length
   exact truthy_tuple pl (by simp only [aD];omega) ⟨H,I.tok _,by rw [z8t r];exact q⟩
  ·subst e'
   obtain⟨hz,hS,vs,r,m⟩:kvs.length≤sizeLine∧(p==sysModules)=false∧∃vs,KV kvs vs∧s.heap.DictOf (z0Z X.prog X.w) p vs:=I.hok p _ hx
   have hlen:kvs.length=vs.length:=Paired.length r
   exact wpAny_truthy_dict hS m (by omega) ⟨H,I.tok _,by rw [y5h r];exact q⟩
 |_=>exact(show False from e).elim
theorem x0j(ha:PE X a ta)(he:∀whole,isTrue a X.env whole=(do let v ←whole;standAt a.pos;holding [v] (truthy v))):
  PT X a (fun σ H Q=>ta σ H fun x H'=>∃k,TruV X.K x H' k∧Q k H'):=by
 intro pins s σ H Q I h
 exact isTrue_plain (thn (ha pins s σ H _ I h) fun v s1 ⟨x,H1,I1,r1,q1⟩=>tru_ok pins s1 σ H1 x v Q I1 r1 q1) (he _)
theorem z7T{x:V}{us:List Value}(r:Vals [x] us):∃u,us=[u]∧RelV x u:=by
 cases r with
 |cons r1 r2=>cases r2;exact⟨_,rfl,r1⟩
theorem vals2{x y:V}{us:List Value}(r:Vals [x,y] us):∃u w',us=[u,w']∧RelV x u∧RelV y w':=by
 cases r with
 |cons r1 r2=>
  cases r2 with
  |cons r3 r4=>cases r4;exact⟨_,_,rfl,r1,r3⟩
theorem x1S:z4n X (.builtin "abs") (fun xs H Q=>∃i,xs=[.int i]∧Q (.int (if i<0 then -i else i)) H):=by
 intro pins s σ H xs us Q I r h
 obtain⟨i,rfl,q⟩:=h
 obtain⟨u,rfl,t,rfl⟩:=z7T r
 exact call_abs_int fun u tk=>⟨.int (if i<0 then -i else i),H,I.tok _,⟨_,rfl⟩,q⟩
theorem y9o(hc:X.calm=true):z4n X (.builtin "min") (fun xs H Q=>∃i j,xs=[.int i,.int j]∧Q (.int (if j<i then j else i)) H):=by
 intro pins s σ H xs us Q I r h
 obtain⟨i,j,rfl,q⟩:=h
 obtain⟨u,w',rfl,⟨t,rfl⟩,⟨t',rfl⟩⟩:=vals2 r
 refine min_two_ints (I.ok.hd hc) fun h' tk k=>⟨_,H,I.kept k,?_,q⟩
 by_cases hj:j<i
 ·rw [if_pos hj,if_pos hj];exact⟨_,rfl⟩
 ·rw [if_neg hj,if_neg hj];exact⟨_,rfl⟩
def LenV(K:aa)(x:V)(H:Hp)(n:Nat):Prop:=
 match x with
 |.str y=>y.length≤sizeLine∧n=y.length
 |.byt y=>y.size≤sizeLine∧n=y.size
 |.ref p=>(∃xs,SqL K H p xs∧n=xs.length)∨∃xs,SqT K H p xs∧n=xs.length
 |_=>False
theorem x0Z:z4n X (.builtin "len") (fun xs H Q=>∃x n,xs=[x]∧LenV X.K x H n∧Q (.int n) H):=by
 intro pins s σ H xs us Q I r h
 obtain⟨x,n,rfl,e,q⟩:=h
 obtain⟨u,rfl,rx⟩:=z7T r
 have hl:=z8q
 have hs:sizeLine=16777216:=sizeLine_eq
 cases x with
 |str y=>
  obtain⟨t,rfl⟩:=rx
  obtain⟨hy,e'⟩:y.length≤sizeLine∧n=y.length:=e
  subst e'
  exact len_str (by omega) ⟨.int _,H,I.tok _,⟨_,rfl⟩,q⟩
 |byt y=>
  obtain⟨t,rfl⟩:=rx
  obtain⟨hy,e'⟩:y.size≤sizeLine∧n=y.size:=e
  subst e'
  exact PySem.W.len_bytes (by omega) ⟨.int _,H,I.tok _,⟨_,rfl⟩,q⟩
 |ref p=>
  cases rx
  have e':(∃xs,SqL X.K H p xs∧n=xs.length)∨∃xs,SqT X.K H p xs∧n=xs.length:=e
  rcases e' with⟨xs,hx,e'⟩ | ⟨xs,hx,e'⟩
  ·subst e'
   obtain⟨its,r',pl,hz⟩:=I.list hx
   have hlen:=r'.length
   exact Calls.call_len_list pl.isList (by simp only [aD];omega) ⟨.int xs.length,H,I.tok _,⟨_,by simp only [aD];rw [hlen]⟩,q⟩
  ·subst e'
   obtain⟨its,r',pl,hz⟩:=I.tuple hx
   have hlen:=r'.length
   exact len_tuple pl (by simp only [aD];omega) ⟨.int xs.length,H,I.tok _,⟨_,by simp only [aD];rw [hlen]⟩,q⟩
 |_=>exact(show False from e).elim
end
end L2
namespace L2
open PySem PySem.Spec PyProof.Rows
structure ObjM(h:Heap)(x dx C:Addr)(mA:Str->Option Value):Prop where
 obj:h.get? x=some (dP C dx)
 ns:h.Ns1 dx mA
 ne:dx≠x
theorem y9V{h:Heap}{dx:Addr}{mA:Str->Option Value}(n:h.Ns1 dx mA):∃od,h.get? dx=some od∧∀name,dX name od=some (mA name):=by
 obtain⟨o,es,ep,ho,hd,hk,_,hm⟩:=n
 refine⟨o,ho,fun name=>?_⟩
 have e:=hm name
 unfold nsFind findBy at e
 rw [←Array.find?_toList]at e
 unfold dX
 rw [hd]
 dsimp only
 split
 ·rename_i y q
  rw [q]at e
  exact congrArg some e
 ·rename_i q
  rw [q]at e
  have a:es.toList.any (·.refKey)=false:=by
   rw [cz]
   intro y hy
   obtain⟨z,t,hkey⟩:=hk y (Array.mem_toList_iff.mp hy)
   simp [DictEntry.refKey,hkey]
  have a':¬ es.toList.any (·.refKey)=true:=by rw [a];exact ar
  rw [if_neg a']
  exact congrArg some e
theorem ObjM.look{h:Heap}{x dx C:Addr}{mA:Str->Option Value}(I:ObjM h x dx C mA):∃od,dg h x (dP C dx) C (some od)∧∀name,dX name od=some (mA name):=
 let⟨od,ho,hl⟩:=y9V I.ns
 ⟨od,⟨I.obj,rfl,rfl,ho⟩,hl⟩
section
variable{prog:Program}{w:World}{A:Around}{E:Value->Shared->Prop}{s:Shared}{K:aa}{x dx C f:Addr}{mA:Str->Option Value}{name:Str}{v:Value}
end
section
variable{P:Program}{w:World}{H H':Hp}{h h':Heap}{a C dx:Addr}{fs fs':List (Str×V)}
theorem ins_get(hok:HOk P w H h)(e:H a=some (.ins C dx fs)):∃mA,ObjM h a dx C mA∧(∀f,RelO (fs.lookup f) (mA f))∧PySem.Within mA (fs.map (·.1))∧fs.length≤1000∧H dx=some (.own a):=by
 obtain⟨d,z,ne,ob,mA,n,r,q⟩:=(show ObjOk P w H h a (.ins C dx fs) from hok a _ e)
 exact⟨mA,⟨ob,n,ne⟩,r,q,z,d⟩
end
structure Cls(K:aa)(C:Addr):Prop where
 pg:dM K C Str.empty=true
 hd:fz K C=true
 po:fy K C=true
 sa:aU K (.ref C) "__setattr__" = some (some (.builtin "object.__setattr__"))
theorem Cls.get{K:aa}{C:Addr}(c:Cls K C)(f:Str):dM K C f=true:=c.pg
def NoAttr(K:aa)(C:Addr)(f:Str):Prop:=aU K (.ref C) f=some none
structure Con(K:aa)(C:Addr)(f:Str)(v:V)(u:Value):Prop where
 at_:aU K (.ref C) f=some (some u)
 rel:RelV v u
 get:cb K u "__get__" = some none
 cp:PySem.W.copiedNames.contains f=false
structure Meth(K:aa)(C:Addr)(m:Str)(f:Addr):Prop where
 at_:aU K (.ref C) m=some (some (.ref f))
 fn:PySem.W.isFn K (.ref f)=true
 kp:bV K (.ref f)=true
section
variable{X:Cx}{pins:List (Addr×Obj)}{σ:St}{H:Hp}{s:Shared}{a C dx:Addr}{fs:List (Str×V)}{f:Str}{v:V}{A:Around}{E:Value->Shared->Prop}
end
section
variable{X:Cx}{o e value:Expr}{f:Str}{pos pos' tpos:Pos}{ta tv:TE}
end
section
variable{X:Cx}{pins:List (Addr×Obj)}{σ:St}{H:Hp}{s:Shared}{A:Around}{E:Value->Shared->Prop}{Q:Value->Shared->Prop}{c:Value}{b:Bool}
inductive TyOf(K:aa)(H:Hp):V->Value->Prop where
 |non:TyOf K H .non (.type "NoneType")
 |bl (x:Bool):TyOf K H (.bl x) (.type "bool")
 |int (i:Int):TyOf K H (.int i) (.type "int")
 |str (x:Str):TyOf K H (.str x) (.type "str")
 |flt (x:UInt64):TyOf K H (.flt x) (.type "float")
 |lst {a:Addr} {xs:List V} (e:H a=some (.lst xs)):TyOf K H (.ref a) (.type "list")
 |frz {a:Addr} {o:Obj} {xs:List V} (e:H a=some (.frz o (.lst xs))):TyOf K H (.ref a) (.type "list")
 |tup {a:Addr} {xs:List V} (e:H a=some (.tup xs)):TyOf K H (.ref a) (.type "tuple")
 |dK {a:Addr} {kvs:List (Key×V)} (e:H a=some (.dK kvs)):TyOf K H (.ref a) (.type "dict")
 |dT {a:Addr} {kvs:List (List Key×V)} (e:H a=some (.dT kvs)):TyOf K H (.ref a) (.type "dict")
 |ins {a C dx:Addr} {fs:List (Str×V)} (e:H a=some (.ins C dx fs)) (cl:Cls K C) (ha:aU K (.ref C) "__class__" = some (some (.builtin "object.__class__")))
   (hn:cb K (.builtin "object.__class__") "__get__" = some (some (.builtin "getset_descriptor.__get__"))) (htk:cJ K (.builtin "object.__class__")=some true)
   (hm:b6 K C (.type "object")=some true):TyOf K H (.ref a) (.ref C)
end
end L2
namespace L2
open PySem PySem.Spec PyProof.Rows
structure Room(k:Nat)(A:Around):Prop where
 hd:A.handled=none
 dp:A.depth+3*k+5<recursionLimit
 un:A.units+16*k+200<cLine
theorem Room.mono{j k:Nat}{A:Around}(r:Room k A)(h:j≤k):Room j A:=⟨r.hd,by have:=r.dp;omega,by have:=r.un;omega⟩
theorem Room.deeper{k:Nat}{A:Around}(r:Room (k+1) A)(env:Env):Room k (A.deeper env):=
 ⟨r.hd,by have:=r.dp;show A.depth+1+3*k+5<_;omega,by have:=r.un;show A.units+3+16*k+200<_;omega⟩
theorem Room.depth{k:Nat}{A:Around}(r:Room k A):A.depth<recursionLimit:=by have:=r.dp;omega
theorem Room.units{k:Nat}{A:Around}(r:Room k A):A.units+64<cLine:=by have:=r.un;omega
def tNil:TA:=fun _ H Q=>Q [] H
def tCons(ta:TE)(tr:TA):TA:=fun σ H Q=>ta σ H fun x H1=>tr σ H1 fun xs H2=>Q (x::xs) H2
section
variable{X:Cx}{e:Expr}{es:List Expr}{te:TE}{t:TA}{pos:Pos}
theorem pa_nil:PA X [] tNil:=fun _ _ _ _ H Q I h=>Calls.spliced_nil ⟨[],H,I,.nil,h⟩
theorem z1V(ha:PE X e te)(hr:PA X es t)(hs:starEach (e::es) X.env=(false,eval e X.env)::starEach es X.env:=by rfl):PA X (e::es) (tCons te t):=by
 intro pos pins s σ H Q I h
 rw [hs]
 show wpAny _ _ (spliced ((false,eval e X.env)::backTo pos (starEach es X.env))) _ _ s
 refine Calls.spliced_cons (thn (ha pins s σ H _ I h) fun u s1 ⟨x,H1,I1,r1,q1⟩=>?_)
 exact thn (hr pos pins s1 σ H1 _ I1 q1) fun us s2 ⟨xs,H2,I2,r2,q2⟩=>⟨x::xs,H2,I2,.cons r1 r2,q2⟩
def tTup(t:TA):TE:=fun σ H Q=>t σ H fun xs H1=>xs.length≤sizeLine∧∀p,H1 p=none->Q (.ref p) (upd H1 p (.tup xs))
def tLst(t:TA):TE:=fun σ H Q=>t σ H fun xs H1=>xs.length≤sizeLine∧∀p,H1 p=none->Q (.ref p) (upd H1 p (.lst xs))
theorem pe_tup{x1}(h:PA X es t):PE X (.Tuple es x1 pos) (tTup t):=by
 intro pins s σ H Q I hq
 refine wpAny_Tuple_spliced (thn (h pos pins s σ H _ I hq) fun us s1 ⟨xs,H1,I1,r,z,q⟩=>⟨by rw [←r.length];exact z,?_⟩)
 have hf:H1 s1.heap.objs.size=none:=I1.hok.fresh (ao _)
 refine⟨.ref s1.heap.objs.size,upd H1 s1.heap.objs.size (.tup xs),I1.laid (t':=s1.toks) (fun b u e=>Heap.get?_push_of_some _ e) (ao _) ?_,rfl,q _ hf⟩
 exact⟨z,us,r,TupN.new _ _⟩
theorem y8O(h:PA X es t):PE X (.List es pos) (tLst t):=by
 intro pins s σ H Q I hq
 refine wpAny_List_spliced (thn (h pos pins s σ H _ I hq) fun us s1 ⟨xs,H1,I1,r,z,q⟩=>⟨by rw [←r.length];exact z,?_⟩)
 have hf:H1 s1.heap.objs.size=none:=I1.hok.fresh (ao _)
 refine⟨.ref s1.heap.objs.size,upd H1 s1.heap.objs.size (.lst xs),I1.laid (t':=s1.toks) (fun b u e=>Heap.get?_push_of_some _ e) (ao _) ?_,rfl,q _ hf⟩
 exact⟨z,us,0,r,Heap.get?_push_size _ rfl⟩
end
abbrev Sp:=List V->Hp->VK->XK->Prop
abbrev CXT:=List Env->Hp->Shared->XK->Value->Shared->Prop
structure Env0(P:Program)(w:World)(K:aa)(mg:Str->Option Value)(base:Heap)(A:Around)(outer:List Env)(s:Shared)(H:Hp):Prop where
 frames:A.frames=some outer
 mod:Mod K mg base
 bs:∀b o,base.get? b=some o->s.heap.get? b=some o∧H b=none
 bsz:base.objs.size≤s.heap.objs.size
 funs:s.heap.FunFrames base outer
 frf:∀b∈frs outer,H b=none
 hok:HOk P w H s.heap
 bare:AllBare s.gens
def CE(outer:List Env)(P:Program)(w:World)(H:Hp)(s:Shared)(Q:VK)(u:Value)(s':Shared):Prop:=
 ∃v H',s'.os=s.os∧AllBare s'.gens∧Un (frs outer) [] H H' s.heap s'.heap∧HOk P w H' s'.heap∧RelV v u∧Q v H'
def CR(CX:CXT)(outer:List Env)(P:Program)(w:World)(H:Hp)(s:Shared)(Q:VK)(E:XK)(r:Result)(s':Shared):Prop:=
 match r with
 |.ok (.ret u)=>CE outer P w H s Q u s'
 |.ok _=>False
 |.error e=>CX outer H s E e s'
structure FnOk(P:Program)(w:World)(K:aa)(mg:Str->Option Value)(base:Heap)(CX:CXT)(k:Nat)(f:Addr)(fd:FuncData)(ps:List Str)(sp:Sp):Prop where
 len:∀vs H Q E,sp vs H Q E->vs.length=ps.length
 run:∀(A:Around) (outer:List Env) (s:Shared) (H:Hp) (args:Args) (us:List Value) (vs:List V) (Q:VK) (E:XK),Room k A->Env0 P w K mg base A outer s H->BindsTo s fd args (ps.zip us)->Vals vs us->sp vs H Q E →
  codeAny (model P w) A (.call (.ref f) args) (CR CX outer P w H s Q E) s
theorem FnOk.imp{P:Program}{w:World}{K:aa}{mg:Str->Option Value}{base:Heap}{CX:CXT}{k:Nat}{f:Addr}{fd:FuncData}{ps:List Str}{sp sp':Sp}(F:FnOk P w K mg base CX k f fd ps sp)
  (h:∀vs H Q E,sp' vs H Q E->sp vs H Q E):FnOk P w K mg base CX k f fd ps sp':=
 ⟨fun vs H Q E q=>F.len vs H Q E (h _ _ _ _ q),fun A outer s H args us vs Q E hr he hb hv hs=>F.run A outer s H args us vs Q E hr he hb hv (h _ _ _ _ hs)⟩
section
variable{X:Cx}{pins:List (Addr×Obj)}{σ:St}{H:Hp}{s s':Shared}
theorem Inv.env0(I:Inv X pins σ H s):Env0 X.prog X.w X.K X.mg X.base X.A X.stack s H:=
 ⟨I.ok.frames,I.ok.mod,I.bs,ba I.ok.bsz I.sz,I.stack,I.stkFree,I.hok,I.bare⟩
theorem Inv.after{Q:VK}{u:Value}(I:Inv X pins σ H s)(h:CE X.stack X.prog X.w H s Q u s'):EP X pins σ Q u s':=by
 obtain⟨v,H',os,bare,un,hok,r,q⟩:=h
 obtain⟨hh,g,d,t,os'⟩:=s'
 obtain rfl:os'=s.os:=os
 exact⟨v,H',I.call (h':=hh) (g':=g) (d':=d) (t':=t) (ch:=[]) un hok bare (fun b z=>absurd z (by simp)),r,q⟩
end
def tCall(sp:Sp)(dvs:List V)(E:XK)(t:TA):TE:=fun σ H Q=>t σ H fun vs H1=>sp (vs++dvs) H1 Q E
def Binds(K:aa)(fd:FuncData)(ps:List Str)(ds:List Value):Prop:=
 ∀(s:Shared) (us:List Value),K.In s.heap->(us++ds).length=ps.length->BindsTo s fd ⟨us,[]⟩ (ps.zip (us++ds))
theorem Binds.all{K:aa}{fd:FuncData}{ps:List Str}(h:∀us:List Value,us.length=ps.length->bindArgs fd ⟨us,[]⟩=pure (ps.zip us)):Binds K fd ps []:=fun s us _ hl=>by
 rw [aP]at hl ⊢
 exact .of_eq (h us hl)
def y9h(CX:CXT)(X:Cx)(E:XK):Prop:=∀(pins:List (Addr×Obj)) (σ:St) (H:Hp) (s:Shared) (e:Value) (s':Shared),Inv X pins σ H s->CX X.stack H s E e s'->X.xe e s'
section
variable{X:Cx}{CX:CXT}{k:Nat}{f C:Addr}{fd:FuncData}{ps:List Str}{sp:Sp}{dvs:List V}{ds:List Value}{E:XK}{x m:Str}{p pos apos:Pos}{e o:Expr}{es:List Expr}{ta:TE}{t:TA}
theorem run_fn{pins:List (Addr×Obj)}{σ:St}{H:Hp}{s:Shared}{Q:VK}{us:List Value}{vs:List V}(F:FnOk X.prog X.w X.K X.mg X.base CX k f fd ps sp)(hr:Room k X.A)(hb:Binds X.K fd ps ds)(hd:Vals dvs ds)(hx:y9h CX X E)
  (I:Inv X pins σ H s) (r:Vals vs us) (h:sp (vs++dvs) H Q E):wpAny (model X.prog X.w) X.A (call (.ref f) us) (EP X pins σ Q) X.xe s:=by
 have r2:Vals (vs++dvs) (us++ds):=r.append hd
 have hl:(us++ds).length=ps.length:=by rw [←r2.length];exact F.len _ _ _ _ h
 refine wpAny_call (codeAny_mono (F.run X.A X.stack s H ⟨us,[]⟩ (us++ds) (vs++dvs) Q E hr I.env0 (hb s us I.kIn hl) r2 h) fun r s' hq=>?_)
 cases r with
 |error e=>exact hx pins σ H s e s' I hq
 |ok fl=>
  cases fl with
  |ret u=>exact I.after hq
  |next=>exact False.elim hq
  |brk=>exact False.elim hq
  |cont=>exact False.elim hq
theorem pe_call(F:FnOk X.prog X.w X.K X.mg X.base CX k f fd ps sp)(hr:Room k X.A)(hg:Gl X x)(hm:X.mg x=some (.ref f))(hk:bV X.K (.ref f)=true)(hb:Binds X.K fd ps ds)(hd:Vals dvs ds)(hx:y9h CX X E)
  (ha:PA X (e::es) t) (hdb:(x==("__debug__" : Str))=false:=by decide) (he:starEach (e::es) X.env=(false,eval e X.env)::starEach es X.env:=by rfl) (hpl:(backTo pos (starEach es X.env)).any (·.1)=false:=by rfl):
  PE X (.Call (.Name x p) (e::es) [] pos) (tCall sp dvs E t):=by
 intro pins s σ H Q I h
 refine wpAny_Call_Name_kw (y1O I hg hm ?_ hdb)
 refine ff (h₀:=X.base) I.ok.mod.kin hk (thn (ha pos pins s σ H _ I h) fun us s1 ⟨vs,H1,I1,r,q⟩=>⟨I1.kIn,?_⟩) he hpl
 exact run_fn F hr hb hd hx I1 r q
structure Mk(K:aa)(C f:Addr):Prop where
 makes:PySem.W.makesIn K C=true
 init:aU K (.ref C) "__init__" = some (some (.ref f))
 fn:PySem.W.isFn K (.ref f)=true
 kp:bV K (.ref C)=true
end
section
variable{X:Cx}{CX:CXT}{k:Nat}{f C:Addr}{fd:FuncData}{ps ks:List Str}{sp:Sp}{E:XK}{x m:Str}{p pos apos kpos:Pos}{e o:Expr}{es:List Expr}{kws:List Keyword}{te ta:TE}{t tk:TA}{nm:Option Str}
structure KBinds(K:aa)(fd:FuncData)(ps ks:List Str)(g:List Value->List Value->List Value)(gV:List V->List V->List V):Prop where
 to:∀(s:Shared) (us ws:List Value),K.In s.heap->(g us ws).length=ps.length->BindsTo s fd ⟨us,ks.zip ws⟩ (ps.zip (g us ws))
 rel:∀{vs:List V} {us:List Value} {zs:List V} {ws:List Value},Vals vs us->Vals zs ws->Vals (gV vs zs) (g us ws)
variable{g:List Value->List Value->List Value}{gV:List V->List V->List V}
end
structure FnScope(N P:List Str)(sc:Scope):Prop where
 kind:sc.kind = .function
 co:sc.isCoroutine=false
 gen:sc.isGenerator=false
 nd:N.Nodup
 pre:N.take P.length=P
 par:∀x∈P,sc.names.lookup x=some .local∨sc.names.lookup x=some .cell
 nofree:∀y∈sc.names,y.2≠.free
theorem y0q{kindOf:Str->Option NameKind}{x:Str}:∀{binds:List (Str×Value)} {m:Str->Option Value},(∀v,(x,v)∉binds)->bindL kindOf binds m x=m x
 |[],_,_=>rfl
 | (n,v)::r,m,h=>by
  unfold bindL
  rw [y0q fun w hw=>h w (ag _ hw)]
  split
  ·have:x≠n:=by rintro rfl;exact h v ah
   simp [this]
  ·rfl
theorem y0l{kindOf:Str->Option NameKind}{x:Str}:∀{binds:List (Str×Value)} {m:Str->Option Value},(∀v,(x,v)∉binds)->bindC kindOf binds m x=m x
 |[],_,_=>rfl
 | (n,v)::r,m,h=>by
  unfold bindC
  rw [y0l fun w hw=>h w (ag _ hw)]
  split
  ·rfl
  ·have:x≠n:=by rintro rfl;exact h v ah
   simp [this]
theorem y1a{kindOf:Str->Option NameKind}{x:Str}{v:Value}:∀{P:List Str} {vs:List Value} {i:Nat} {m:Str->Option Value},P.Nodup->P[i]? = some x->vs[i]? = some v->kindOf x=some .local →
  bindL kindOf (P.zip vs) m x=some v
 |[],_,_,_,_,h,_,_=>by simp at h
 |_::_,[],_,_,_,_,h,_=>by simp at h
 |p::P,w::vs,0,m,nd,h1,h2,hk=>by
  simp at h1 h2;subst h1;subst h2
  show bindL kindOf ((p,w)::P.zip vs) m p=_
  unfold bindL
  rw [y0q fun v hv=>(av.mp nd).1 (d3 hv).1,if_pos hk]
  simp
 |p::P,w::vs,i+1,m,nd,h1,h2,hk=>by
  show bindL kindOf ((p,w)::P.zip vs) m x=_
  unfold bindL
  exact y1a (i:=i) (av.mp nd).2 (by simpa using h1) (by simpa using h2) hk
theorem y0d{kindOf:Str->Option NameKind}{x:Str}{v:Value}:∀{P:List Str} {vs:List Value} {i:Nat} {m:Str->Option Value},P.Nodup->P[i]? = some x->vs[i]? = some v->kindOf x≠some .local →
  bindC kindOf (P.zip vs) m x=some v
 |[],_,_,_,_,h,_,_=>by simp at h
 |_::_,[],_,_,_,_,h,_=>by simp at h
 |p::P,w::vs,0,m,nd,h1,h2,hk=>by
  simp at h1 h2;subst h1;subst h2
  show bindC kindOf ((p,w)::P.zip vs) m p=_
  unfold bindC
  rw [y0l fun v hv=>(av.mp nd).1 (d3 hv).1,if_neg hk]
  simp
 |p::P,w::vs,i+1,m,nd,h1,h2,hk=>by
  show bindC kindOf ((p,w)::P.zip vs) m x=_
  unfold bindC
  exact y0d (i:=i) (av.mp nd).2 (by simpa using h1) (by simpa using h2) hk
def z6X(N:List Str)(vs:List V):St:=vs.map some++ak (N.length - vs.length) none
def y2F(CX:CXT)(P:Program)(w:World)(K:aa)(mg:Str->Option Value)(base:Heap)(N:List Str)(qual:Str)(scope:Scope)(f:Addr)(cd:Value)(A:Around)(outer:List Env)(s:Shared)(H:Hp)(E:XK):Cx where
 prog:=P
 w:=w
 K:=K
 mg:=mg
 base:=base
 A:=A.deeper (envOfC qual scope s.heap.objs.size f cd)
 N:=N
 s₀:=s
 H₀:=H
 env:=envOfC qual scope s.heap.objs.size f cd
 outer:=outer
 stack:=envOfC qual scope s.heap.objs.size f cd::outer
 ex:=[]
 calm:=true
 fn:=fun _=>true
 pn:=[]
 xe:=fun e s'=>wpAny (model P w) (A.deeper (envOfC qual scope s.heap.objs.size f cd)) (leaving (envOfC qual scope s.heap.objs.size f cd) e) (fun _ s''=>CX outer H s E e s'') (fun e' s''=>CX outer H s E e' s'') s'
theorem y3y{sc:Scope}{n:Nat}{x:Str}(h:sc.names.lookup x=some .cell):∃c,(cellsFrom n sc.names []).lookup x=some c:=by
 have q:=eI sc.names n [] (.inl h)
 exact cX.mp q
theorem y7x{CX:CXT}{P:Program}{w:World}{K:aa}{mg:Str->Option Value}{base:Heap}{N ps:List Str}{qual:Str}{scope:Scope}{f:Addr}{cd:Value}{A:Around}{outer:List Env}{s s1:Shared}{H:Hp}{E:XK}{us:List Value}{vs:List V}
  (S:FnScope N ps scope) (hd:A.handled=none) (e0:Env0 P w K mg base A outer s H) (hl:vs.length=ps.length) (r:Vals vs us)
  (x:InCallC s s.heap.objs.size (bindL (envOfC qual scope s.heap.objs.size f cd).kindOf (ps.zip us) fun _=>none) (cellsFrom (s.heap.objs.size+1) scope.names []) (bindC (envOfC qual scope s.heap.objs.size f cd).kindOf (ps.zip us) fun _=>none) s1):
  Inv (y2F CX P w K mg base N qual scope f cd A outer s H E) [] (z6X N vs) H s1:=by
 have hpl:ps.length≤N.length:=by have:=congrArg List.length S.pre;rw [dW]at this;omega
 obtain⟨h1,tk,rfl,hk⟩:=x.done
 have noA:∀b:Addr,b∉(y2F CX P w K mg base N qual scope f cd A outer s H E).ex:=fun b z=>absurd (show b∈([]:List Addr) from z) (by simp)
 refine⟨⟨e0.mod,S.kind,rfl,rfl,ao _,fun y z c h1 h2=>?_,fun y hy=>?_,fun y c _ h=>?_,fun _=>hd,Around.frames_deeper e0.frames,.inr ⟨rfl,rfl⟩,fun b z=>absurd z (noA b),e0.bs,e0.bsz,fun b _ _=>noA b,fun b z=>absurd z (noA b),e0.funs,e0.frf⟩,
  rfl,e0.bare,Un.kept hk,⟨_,x.toInCall.ns,fun i y v h1 h2 h3=>?_⟩,fun y c h=>⟨_,x.cell y c h⟩,e0.hok.fresh (ao _),fun y c h=>?_,fun p hp=>absurd (show p∈([]:List (Addr×Obj)) from hp) (by simp),e0.hok.kept hk,?_⟩
 ·exact name_of_addr x.apart (PySem.mem_of_lookup h1) (PySem.mem_of_lookup h2)
 ·have hy:scope.names.lookup y=some .cell∨scope.names.lookup y=some .free:=hy
  rcases hy with hy | hy
  ·exact y3y hy
  ·exact absurd rfl (S.nofree _ (PySem.mem_of_lookup hy))
 ·exact cT (x.above y c (PySem.mem_of_lookup h))
 ·have hi:i<vs.length:=by
   unfold z6X at h2
   by_cases hi:i<vs.length
   ·exact hi
   ·rw [bY (by simpa using hi)]at h2
    rw [ca]at h2
    split at h2 <;> cases h2
  have ha:vs[i]? = some v:=by
   unfold z6X at h2
   rw [bv (by simpa using hi),aN]at h2
   cases e:vs[i]? with
   |none=>rw [e]at h2;cases h2
   |some a=>rw [e]at h2;cases h2;rfl
  obtain⟨u,hu,rv⟩:=r.get ha
  have hp:ps[i]? = some y:=by
   rw [←S.pre,List.getElem?_take_of_lt (by omega)];exact h1
  have ndP:ps.Nodup:=by rw [←S.pre];exact S.nd.sublist (List.take_sublist _ _)
  refine⟨u,rv,?_⟩
  rcases S.par y (fB hp)with k | k
  ·exact .inl ⟨k,y1a ndP hp hu k⟩
  ·obtain⟨c,e⟩:=y3y (n:=s.heap.objs.size+1) k
   refine .inr ⟨.inl k,c,e,?_⟩
   have q:=x.cell y c e
   rw [y0d ndP hp hu (by show scope.names.lookup y≠_;rw [k];decide)]at q
   exact q
 ·exact e0.hok.fresh (cT (x.above y c (PySem.mem_of_lookup h)))
 ·unfold z6X
  show _=N.length
  rw [aF,am,dl]
  omega
theorem fn_of{CX:CXT}{P:Program}{w:World}{K:aa}{mg:Str->Option Value}{base:Heap}{k:Nat}{f:Addr}{name qual:Str}{params:Arguments}{body:List Stmt}{scope:Scope}{dV kV doc pm cdv ct oc:Value}{an od:Option Addr}
  {osl:Array (Option Value)} {N ps:List Str} {sp:Sp} (lk:K.lookup f=some ⟨oc,od,.func (bK name qual params body scope dV kV doc pm an cdv ct),osl⟩) (hcd:df K cdv qual=true) (S:FnScope N ps scope)
  (len:∀vs H Q E,sp vs H Q E->vs.length=ps.length)
  (hbody:∀(A:Around) (outer:List Env) (s:Shared) (H:Hp) (vs:List V) (Q:VK) (E:XK),Room k (A.deeper (envOfC qual scope s.heap.objs.size f cdv))->sp vs H Q E →
   ∃t,PSs (y2F CX P w K mg base N qual scope f cdv A outer s H E) body t∧t { nx:=fun _ H'=>Q .non H',rt:=Q } (z6X N vs) H):
  FnOk P w K mg base CX (k+1) f (bK name qual params body scope dV kV doc pm an cdv ct) ps sp:=by
 refine⟨len,fun A outer s H args us vs Q E hr e0 hb r hsp=>?_⟩
 have hl:=len _ _ _ _ hsp
 have KX:K.In s.heap:=e0.mod.kin.keeps fun b o e=>(e0.bs b o e).1
 have lim:s.heap.NoLimit:=e0.mod.nolimit.keeps fun b o e=>(e0.bs b o e).1
 have hkind:∀y∈ps.zip us,scope.names.lookup y.1=some .local∨(scope.names.lookup y.1=some .cell∧((cellsFrom (s.heap.objs.size+1) scope.names []).lookup y.1).isSome=true):=fun⟨n,v⟩ hy=>by
  rcases S.par n (d3 hy).1 with q | q
  ·exact .inl q
  ·exact .inr ⟨q,eI _ _ _ (.inl q)⟩
 refine codeAny_call_function hr.depth (KX _ _ lk) rfl S.co S.gen rfl (PySem.W.codeRec_of KX hcd) (hb _ _ _ _ ?_)
 refine wpAny_newFunctionEnv_cells S.kind hkind fun env he s1 x=>?_
 subst he
 refine⟨lim.keeps x.toInCall.keep,codeAny_func ?_⟩
 obtain⟨t,ht,hq⟩:=hbody A outer s H vs Q E (hr.deeper _) hsp
 have I:Inv (y2F CX P w K mg base N qual scope f cdv A outer s H E) [] (z6X N vs) H s1:=y7x S hr.hd e0 hl r x
 refine wpAny_mono (ht [] s1 (z6X N vs) H _ I hq) (fun fl s' hs=>?_) fun e s' hs=>hs
 have fin:∀{σ':St} {H':Hp} {v:V} {u:Value},Inv (y2F CX P w K mg base N qual scope f cdv A outer s H E) [] σ' H' s'->RelV v u->Q v H'->CE outer P w H s Q u s':=
  fun {σ' H' v u} J rv q=>⟨v,H',J.os,J.bare,J.base,J.hok,rv,q⟩
 cases fl with
 |ret u=>
  obtain⟨v,σ',H',J,rv,q⟩:=hs
  exact fin J rv q
 |next=>
  obtain⟨σ',H',J,q⟩:=hs
  exact fin (v:=V.non) (u:=Value.none) J rfl q
 |brk=>
  obtain⟨_,_,_,q⟩:=hs
  exact False.elim q
 |cont=>
  obtain⟨_,_,_,q⟩:=hs
  exact False.elim q
end L2
namespace L2
open PySem PySem.Spec PyProof.Rows
section
variable{X:Cx}{x:Str}{p pos:Pos}{e:Expr}{es:List Expr}{t:TA}{id T:String}{r:List V->Hp->VK->Prop}
def tCB(r:List V->Hp->VK->Prop)(t:TA):TE:=fun σ H Q=>t σ H fun vs H1=>r vs H1 Q
theorem z6z(hc:z4n X (.builtin id) r)(hg:Gl X x)(hm:X.mg x=none)(hv:bootBuiltins x=some (.builtin id))(ha:PA X (e::es) t)(hn:x ≠ "__name__" := by decide)(hdb:(x==("__debug__" : Str))=false:=by decide)
  (he:starEach (e::es) X.env=(false,eval e X.env)::starEach es X.env:=by rfl) (hpl:(backTo pos (starEach es X.env)).any (·.1)=false:=by rfl):PE X (.Call (.Name x p) (e::es) [] pos) (tCB r t):=by
 intro pins s σ H Q I h
 refine wpAny_Call_Name_kw (z4r I hg hm hv ?_ hn hdb)
 exact PyProof.Rows.callWith_builtin1 (thn (ha pos pins s σ H _ I h) fun us s1 ⟨vs,H1,I1,r1,q1⟩=>hc pins s1 σ H1 vs us Q I1 r1 q1) he hpl
theorem y5N(hc:z4n X (.type T) r)(hg:Gl X x)(hm:X.mg x=none)(hv:bootBuiltins x=some (.type T))(ha:PA X (e::es) t)(hn:x ≠ "__name__" := by decide)(hdb:(x==("__debug__" : Str))=false:=by decide)
  (he:starEach (e::es) X.env=(false,eval e X.env)::starEach es X.env:=by rfl) (hpl:(backTo pos (starEach es X.env)).any (·.1)=false:=by rfl):PE X (.Call (.Name x p) (e::es) [] pos) (tCB r t):=by
 intro pins s σ H Q I h
 refine wpAny_Call_Name_kw (z4r I hg hm hv ?_ hn hdb)
 exact PyProof.Rows.callWith_type1 (thn (ha pos pins s σ H _ I h) fun us s1 ⟨vs,H1,I1,r1,q1⟩=>hc pins s1 σ H1 vs us Q I1 r1 q1) he hpl
end
end L2
namespace HT
open PySem PyProof.Rows
section
open PySem.SeqAt
open PySem.AutoSeq1 (wpAny_loadPart')
open PySem.MeetsSeq PySem.MeetsSeq2 PySem.MeetsSeq3
end
section
variable{prog:Program}{w:World}{A:Around}{E:Value->Shared->Prop}{s:Shared}
def sIx(n d:Nat):Option Int->Nat
 |none=>d
 |some v=>if v<0 then(v+(n:Int)).toNat else min v.toNat n
end
end HT
namespace L2
open PySem PySem.Spec PyProof.Rows
abbrev TO:=St->Hp->(Option Int->Hp->Prop)->Prop
theorem z4k{ns:List Int}:∀{us:List Value},Vals (ns.map V.int) us->IntsAre us ns:=by
 induction ns with
 |nil=>intro us r;rw [cS]at r;cases r;exact .nil
 |cons n ns ih=>
  intro us r
  rw [aG]at r
  cases r with
  |cons r1 r2=>
   obtain⟨t,e⟩:=r1
   subst e
   exact .cons n t (ih r2)
section
variable{X:Cx}{e:Expr}{te:TE}{lo hi:Option Expr}{tl th:TO}{pos p2:Pos}
end
end L2
namespace L2
open PySem PySem.Spec PyProof.Rows
def ixN(n:Nat)(i:Int):Option Nat:=if 0≤i then(if i<n then some i.toNat else none)else if -(n:Int)≤i then some (i+n).toNat else none
def atI{α:Type}(xs:List α)(i:Int):Option α:=(ixN xs.length i).bind fun j=>xs[j]?
theorem y8w{n:Nat}{i:Int}{j:Nat}(h:ixN n i=some j):seqIndex? i n=some j∧j<n∧-(n:Int)≤i∧i<n:=by
 unfold ixN at h
 by_cases h0:0≤i
 ·rw [if_pos h0]at h
  by_cases h1:i<n
  ·rw [if_pos h1]at h
   have e:i.toNat=j:=Option.some.inj h
   exact⟨by rw [seqIndex_of h0 h1,e],by omega,by omega,h1⟩
  ·rw [if_neg h1]at h;cases h
 ·rw [if_neg h0]at h
  by_cases h1:-(n:Int)≤i
  ·rw [if_pos h1]at h
   have e:(i+n).toNat=j:=Option.some.inj h
   exact⟨by rw [seqIndex_neg (by omega) h1,e],by omega,h1,by omega⟩
  ·rw [if_neg h1]at h;cases h
theorem y2b{α:Type}{xs:List α}{i:Int}{v:α}(h:atI xs i=some v):∃j,seqIndex? i xs.length=some j∧xs[j]? = some v∧j<xs.length∧-(xs.length:Int)≤i∧i<xs.length:=by
 unfold atI at h
 cases e:ixN xs.length i with
 |none=>rw [e]at h;cases h
 |some j=>
  rw [e]at h
  obtain⟨h1,h2,h3,h4⟩:=y8w e
  exact⟨j,h1,h,h2,h3,h4⟩
theorem y2V{α:Type}{xs:List α}{j:Nat}{v:α}(h:xs[j]? = some v):atI xs (j:Int)=some v:=by
 have hj:j<xs.length:=(aX.mp h).1
 have e:ixN xs.length (j:Int)=some j:=by
  unfold ixN
  rw [if_pos (by omega),if_pos (by omega)];simp
 unfold atI;rw [e];exact h
def y2H(b:Expr):Prop:=∀o i,subscripted b false o i=operate [o,i] (getItem o i)
def IxR(X:Cx)(r:R2):Prop:=
 ∀(value slice:Expr) (pins:List (Addr×Obj)) (s:Shared) (σ:St) (H:Hp) (x y:V) (v u:Value) (Q:VK),Inv X pins σ H s->RelV x v->RelV y u->r x y H Q →
  subscripted slice false v u=operate [v,u] (getItem v u)->wpAny (model X.prog X.w) X.A (subscriptTail value slice v u) (EP X pins σ Q) X.xe s
def MtR(X:Cx)(id:String)(r:V->List V->Hp->VK->Prop):Prop:=
 ∀(pins:List (Addr×Obj)) (s:Shared) (σ:St) (H:Hp) (x:V) (xs:List V) (v:Value) (us:List Value) (Q:VK),Inv X pins σ H s->RelV x v->Vals xs us->r x xs H Q →
  wpAny (model X.prog X.w) X.A (call (.builtin id) (v::us)) (EP X pins σ Q) X.xe s
section
variable{X:Cx}{a b:Expr}{ta tb:TE}{pos:Pos}
theorem IxR.or{r r':R2}(h:IxR X r)(h':IxR X r'):IxR X (fun x y H Q=>r x y H Q∨r' x y H Q):=by
 intro value slice pins s σ H x y v u Q I rx ry q hs
 rcases q with q | q
 ·exact h value slice pins s σ H x y v u Q I rx ry q hs
 ·exact h' value slice pins s σ H x y v u Q I rx ry q hs
theorem pe_ix{r:R2}(hr:IxR X r)(ha:PE X a ta)(hb:PE X b tb)(hs:y2H b):PE X (.Subscript a b pos) (tOp r ta tb):=by
 intro pins s σ H Q I h
 exact Subscript_ (binT ha hb I h fun v u s2 x y H2 I2 rx ry q=>hr a b pins s2 σ H2 x y v u Q I2 rx ry q (hs _ _))
def rIxL(K:aa):R2:=fun x y H Q=>∃p xs i v,x = .ref p∧y = .int i∧SqL K H p xs∧atI xs i=some v∧Q v H
def rIxT(K:aa):R2:=fun x y H Q=>∃p xs i v,x = .ref p∧y = .int i∧SqT K H p xs∧atI xs i=some v∧Q v H
def rIxS:R2:=fun x y H Q=>∃z i c,x = .str z∧y = .int i∧z.length≤sizeLine∧atI z.cps.toList i=some c∧Q (.str ⟨#[c]⟩) H
theorem ix_list:IxR X (rIxL X.K):=by
 intro value slice pins s σ H x y v u Q I rx ry h hs
 obtain⟨p,xs,i,z,rfl,rfl,hq,he,q⟩:=h
 cases rx
 obtain⟨t,rfl⟩:=ry
 obtain⟨its,r,pl,hz⟩:=I.list hq
 obtain⟨j,h1,h2,h3,h4,h5⟩:=y2b he
 obtain⟨w,ew,rw'⟩:=r.get h2
 have hl:=r.length
 have hn:=z8q
 have fin:EP X pins σ Q w s:=⟨z,H,I,rw',q⟩
 by_cases h0:0≤i
 ·have hj:i.toNat=j:=by
   rw [seqIndex_of h0 h5]at h1
   exact Option.some.inj h1
  exact item_listR pl.isList h0 (by omega) (by rw [hj];simpa using ew) fin hs
 ·have hj:(i+(its.toArray.size:Int)).toNat=j:=by
   rw [seqIndex_neg (by omega) h4]at h1
   rw [aD,←hl]
   exact Option.some.inj h1
  exact subscriptTail_builtinR (x:=w) pl.isList.typeIs slot_list_getitem.lookup
   (wpAny_getItem_list_neg (Q:=fun r s'=>r=w∧EP X pins σ Q r s') pl.isList (by omega) (by rw [aD] <;> omega) (by omega) (by rw [hj];simpa using ew) ⟨rfl,fin⟩) hs
theorem ix_tup:IxR X (rIxT X.K):=by
 intro value slice pins s σ H x y v u Q I rx ry h hs
 obtain⟨p,xs,i,z,rfl,rfl,hq,he,q⟩:=h
 cases rx
 obtain⟨t,rfl⟩:=ry
 obtain⟨its,r,pl,hz⟩:=I.tuple hq
 obtain⟨j,h1,h2,h3,h4,h5⟩:=y2b he
 obtain⟨w,ew,rw'⟩:=r.get h2
 have hl:=r.length
 have hn:=z8q
 have fin:EP X pins σ Q w s:=⟨z,H,I,rw',q⟩
 exact subscriptTail_builtinR (x:=w) pl.typeIs slot_tuple_getitem.lookup
  (getItem_tuple (j:=j) (Q:=fun r s'=>r=w∧EP X pins σ Q r s') pl (by omega) (by omega) (by rw [aD,←hl];exact h1) (by simpa using ew) ⟨rfl,fin⟩) hs
theorem ix_str:IxR X rIxS:=by
 intro value slice pins s σ H x y v u Q I rx ry h hs
 obtain⟨z,i,c,rfl,rfl,hz,he,q⟩:=h
 obtain⟨t,rfl⟩:=rx
 obtain⟨t',rfl⟩:=ry
 obtain⟨j,h1,h2,h3,h4,h5⟩:=y2b he
 have hl:z.cps.toList.length=z.length:=by simp [Str.length]
 rw [hl]at h1 h4 h5
 have hn:=z8q
 exact tail_any (typeIs_str s z t) slot_str_getitem.lookup (getItem_str (c:=c) (by
  have e1:decide (i < -(2 ^ 63:Int))=false:=decide_eq_false (by omega)
  have e2:decide (i ≥ 2 ^ 63)=false:=decide_eq_false (by omega)
  rw [e1,e2,eO]) (by rw [h1];simpa using h2) ⟨.str ⟨#[c]⟩,H,I.tok _,⟨_,rfl⟩,q⟩) hs
def rIx(K:aa):R2:=fun x y H Q=>rIxL K x y H Q∨rIxT K x y H Q∨rIxS x y H Q
theorem ix_seq:IxR X (rIx X.K):=ix_list.or (ix_tup.or ix_str)
theorem y4R(its:List Value)(n j:Nat)(u:Value):Obj.mapSeq (·.setIfInBounds j u) { cls:=.type "list",data:=.seq its.toArray n } = { cls:=.type "list",data:=.seq (its.set j u).toArray n }:=by
 simp [Obj.mapSeq]
theorem Inv.lst{pins:List (Addr×Obj)}{σ:St}{H:Hp}{s:Shared}{p:Addr}{xs:List V}(I:Inv X pins σ H s)(h:H p=some (.lst xs)):
  ∃(its:List Value) (n:Nat),Vals xs its∧s.heap.get? p=some { cls:=.type "list",data:=.seq its.toArray n }∧xs.length≤sizeLine:=by
 obtain⟨z,its,n,r,e⟩:=I.hok p _ h
 exact⟨its,n,r,e,z⟩
theorem Inv.lstUpd{pins:List (Addr×Obj)}{σ:St}{H:Hp}{s:Shared}{p:Addr}{xs ys:List V}{its its':List Value}{n n':Nat}{f:Obj->Obj}(I:Inv X pins σ H s)(h:H p=some (.lst xs))
  (ho:s.heap.get? p=some { cls:=.type "list",data:=.seq its.toArray n }) (hf:f { cls:=.type "list",data:=.seq its.toArray n } = { cls:=.type "list",data:=.seq its'.toArray n' }) (r:Vals ys its') (hz:ys.length≤sizeLine) (t:Nat):
  Inv X pins σ (upd H p (.lst ys)) { s with heap:=s.heap.update p f,toks:=t }:=by
 have e:(s.heap.update p f).get? p=some { cls:=.type "list",data:=.seq its'.toArray n' }:=by
  rw [Heap.get?_update_self f ho (by rw [hf] <;> rfl),hf]
 refine I.write (x:=p) (e:=p) (by rw [h];trivial) (.inl rfl) (fun b u hb q=>(Heap.get?_update_other _ _ (Ne.symm hb)).trans q) ⟨_,e⟩ ?_
 exact⟨hz,its',n',r,e⟩
def rSetL:V->V->V->Hp->(Hp->Prop)->Prop:=fun o i v H Q=>∃p xs k j,o = .ref p∧i = .int k∧H p=some (.lst xs)∧ixN xs.length k=some j∧Q (upd H p (.lst (xs.set j v)))
theorem y3M:PSet X rSetL:=by
 intro pins s σ H o i v ov iv u Q I ro ri rv h
 obtain⟨p,xs,k,j,rfl,rfl,hp,hj,q⟩:=h
 cases ro
 obtain⟨t,rfl⟩:=ri
 obtain⟨its,n,r,ho,hz⟩:=I.lst hp
 obtain⟨h1,h2,h3,h4⟩:=y8w hj
 have hl:=r.length
 have hn:=z8q
 have I':Inv X pins σ (upd H p (.lst (xs.set j v))) { s with heap:=s.heap.update p (Obj.mapSeq (·.setIfInBounds j u)) }:=
  I.lstUpd hp ho (y4R its n j u) (r.set rv j) (by rw [cQ];exact hz) s.toks
 by_cases h0:0≤k
 ·have hk:k.toNat=j:=by
   rw [seqIndex_of h0 h4]at h1
   exact Option.some.inj h1
  exact PySem.W.ki_setAt ho h0 (by omega) (by rw [aD,←hl];exact h4) (by rw [hk];exact⟨_,I',q⟩)
 ·have hk:(k+(its.toArray.size:Int)).toNat=j:=by
   rw [seqIndex_neg (by omega) h3]at h1
   rw [aD,←hl]
   exact Option.some.inj h1
  exact PySem.W.ki_setBack ho (by omega) (by rw [aD,←hl];exact h3) (by omega) (by rw [hk];exact⟨_,I',q⟩)
theorem y1C:z4n X (.type "list") (fun xs H Q=>∃p ys,xs=[.ref p]∧(SqL X.K H p ys∨SqT X.K H p ys)∧∀l,H l=none->Q (.ref l) (upd H l (.lst ys))):=by
 intro pins s σ H xs us Q I r h
 obtain⟨p,ys,rfl,hq,q⟩:=h
 obtain⟨u,rfl,rx⟩:=z7T r
 cases rx
 have fin:∀(its:List Value),Vals ys its->ys.length≤sizeLine->∀(h':Heap) (c':Nat),(∀b o',s.heap.get? b=some o'->h'.get? b=some o') →
   h'.get? s.heap.objs.size=some { cls:=.type "list",dict:=none,data:=.seq its.toArray c',slots:=#[] }->EP X pins σ Q (.ref s.heap.objs.size) { s with heap:=h' }:=fun its r' hz h' c' kp e=>
  ⟨.ref s.heap.objs.size,_,I.laid (t':=s.toks) kp (ao _) (show ObjOk X.prog X.w _ h' _ (.lst ys) from⟨hz,its,c',r',e⟩),rfl,q _ (I.hok.fresh (ao _))⟩
 rcases hq with hq | hq
 ·obtain⟨its,r',pl,hz⟩:=I.list hq
  have hlen:=r'.length
  obtain⟨o,ho,hc,n,hd⟩:=pl.isList
  exact call_list_seq p (.inl rfl) ho hc hd (fun h' c' kp e=>fin its r' hz h' c' kp e) (by simp only [aD] <;> omega)
 ·obtain⟨its,r',pl,hz⟩:=I.tuple hq
  have hlen:=r'.length
  obtain⟨o,ho,hc,n,hd⟩:=pl
  exact call_list_seq p (.inr rfl) ho hc hd (fun h' c' kp e=>fin its r' hz h' c' kp e) (by simp only [aD] <;> omega)
def tyV(K:aa)(T:String)(x:V)(H:Hp):Prop:=match x with
 |.str _=>T = "str"
 |.int _=>T = "int"
 |.ref p=>(T = "list" ∧ ∃xs,SqL K H p xs)∨(T = "tuple" ∧ ∃o,K.lookup p=some o∧o.cls = .type "tuple" ∧ o.dict=none) ∨
   (T = "dict" ∧ ((∃kvs,H p=some (.dK kvs))∨∃kvs,H p=some (.dT kvs)))∨(T = "set" ∧ ∃S n,H p=some (.set S n))
 |_=>False
theorem tyV_is{pins:List (Addr×Obj)}{σ:St}{H:Hp}{s:Shared}{T:String}{x:V}{v:Value}(I:Inv X pins σ H s)(r:RelV x v)(ty:tyV X.K T x H):
  s.TypeIs v T∧∀a,v = .ref a->∃ob,s.heap.get? a=some ob∧ob.dict=none:=by
 cases x with
 |str z=>
  obtain⟨t,rfl⟩:=r
  cases (show T = "str" from ty)
  exact⟨typeIs_str s z t,fun _ e=>nomatch e⟩
 |int i=>
  obtain⟨t,rfl⟩:=r
  cases (show T = "int" from ty)
  exact⟨typeIs_int s i t,fun _ e=>nomatch e⟩
 |ref p=>
  cases r
  rcases ty with⟨rfl,xs,hq⟩ | ⟨rfl,o,hk,hc,hd⟩ | ⟨rfl,hk⟩ | ⟨rfl,S,n,hk⟩
  ·obtain⟨its,_,pl,_⟩:=I.list hq
   refine⟨pl.isList.typeIs,fun a e=>?_⟩
   cases e
   obtain⟨o,n,e,c,hd,_⟩:=pl
   exact⟨o,e,hd⟩
  ·refine⟨⟨o,I.kIn p o hk,hc⟩,fun a e=>?_⟩
   cases e
   exact⟨o,I.kIn _ o hk,hd⟩
  ·have z:∃o,s.heap.get? p=some o∧o.ExactDict:=by
    rcases hk with⟨kvs,hk⟩ | ⟨kvs,hk⟩
    ·obtain⟨_,_,_,_,o,_,_,e,ex,_⟩:=I.hok p _ hk
     exact⟨o,e,ex⟩
    ·obtain⟨_,_,_,_,o,_,_,e,ex,_⟩:=I.hok p _ hk
     exact⟨o,e,ex⟩
   obtain⟨o,e,ex⟩:=z
   refine⟨⟨o,e,ex.1⟩,fun a e2=>?_⟩
   cases e2
   exact⟨o,e,ex.2.1⟩
  ·obtain⟨o,_,_,_,e,ex,_⟩:=I.hok p _ hk
   refine⟨⟨o,e,ex.1⟩,fun a e2=>?_⟩
   cases e2
   exact⟨o,e,ex.2.1⟩
 |_=>exact False.elim ty
def tBM(K:aa)(T:String)(r:V->List V->Hp->VK->Prop)(to:TE)(t:TA):TE:=fun σ H Q=>to σ H fun x H1=>tyV K T x H1∧t σ H1 fun xs H2=>r x xs H2 Q
variable{o e:Expr}{es:List Expr}{to:TE}{t:TA}{name:Str}{apos cpos:Pos}{T id:String}{r:V->List V->Hp->VK->Prop}
theorem x0U(pa:PlainAttrs T)(slot:Slot T name id)(hty:typeOf (.builtin id)=pure (.type "method_descriptor"))(hm:MtR X id r)(ho:PE X o to)(ha:PA X (e::es) t)
  (hbase:attributeBase o name X.env (eval o X.env)=eval o X.env:=by rfl)
  (hfew:((backTo cpos (starEach (e::es) X.env)).all (fun x=>!x.1)&&(backToKw cpos (keywordEach [] X.env)).all (fun x=>x.1.isSome)
   && decide ((e::es).length+([]:List Keyword).length+(if([]:List Keyword).isEmpty then 0 else 1)<30))=true:=by rfl)
  (hline:(apos.endLine==cpos.line)=true:=by rfl) (hs:starEach (e::es) X.env=(false,eval e X.env)::starEach es X.env:=by rfl) (hplain:(backTo cpos (starEach es X.env)).any (·.1)=false:=by rfl):
  PE X (.Call (.Attribute o name apos) (e::es) [] cpos) (tBM X.K T r to t):=by
 intro pins s σ H Q I h
 refine wpAny_Call_method_late hbase hfew hline rfl (thn (ho pins s σ H _ I h) fun v s1 ⟨x,H1,I1,r1,ty,q1⟩=>?_)
 obtain⟨h1,h2⟩:=tyV_is I1 r1 ty
 refine⟨T,id,pa,slot,hty,h1,h2,?_⟩
 have hA:=ha cpos pins s1 σ H1 _ I1 q1
 rw [hs]at hA ⊢
 refine Calls.callWith_builtin (by show(false||(backTo cpos (starEach es X.env)).any (·.1))=false;rw [hplain] <;> rfl) (Calls.evalArgs_plain ?_)
 exact thn hA fun us s2 ⟨vs,H2,I2,r2,q2⟩=>hm pins s2 σ H2 x vs v us Q I2 r1 r2 q2
end
end L2
namespace L2
open PySem PySem.Spec PyProof.Rows
def MtM(X:Cx)(id:String)(r:V->List V->Hp->VK->Prop):Prop:=
 ∀(pins:List (Addr×Obj)) (s:Shared) (σ:St) (H:Hp) (x:V) (xs:List V) (v:Value) (us:List Value) (Q:VK),Inv X pins σ H s->RelV x v->Vals xs us->r x xs H Q →
  wpAny (model X.prog X.w) X.A (call (.builtin id) (v::us)) (EP X pins σ Q) X.xe s
theorem Vals.one:∀{x:V} {us:List Value},Vals [x] us->∃u,us=[u]∧RelV x u
 |_,_,.cons r .nil=>⟨_,rfl,r⟩
theorem Vals.two:∀{x y:V} {us:List Value},Vals [x,y] us->∃u v,us=[u,v]∧RelV x u∧RelV y v
 |_,_,_,.cons r (.cons q .nil)=>⟨_,_,rfl,r,q⟩
theorem Vals.rep{xs:List V}{us:List Value}(h:Vals xs us):∀k:Nat,Vals (ak k xs).flatten (ak k us).flatten
 |0=>.nil
 |k+1=>by
  rw [bA,bA,bQ,bQ]
  exact Vals.append h (Vals.rep h k)
theorem y1j(its:List Value):∀(k:Nat) (acc:List Value),
  fG (fun x1 x2=>x1++x2) acc.toArray (ak k its.toArray)=(acc++(ak k its).flatten).toArray
 |0,acc=>by simp
 |k+1,acc=>by
  have e:acc.toArray++its.toArray=(acc++its).toArray:=by simp
  have e2:(acc++its)++(ak k its).flatten=acc++(ak (k+1) its).flatten:=by
   rw [bA,bQ,aZ]
  rw [←e2,←y1j its k (acc++its),←e,bA,List.foldl_cons]
section
variable{X:Cx}{pins:List (Addr×Obj)}{σ:St}{H:Hp}{s:Shared}{l b:Addr}{xs ys zs:List V}
theorem Inv.lset{its its':List Value}{n:Nat}{f:Array Value->Array Value}{t':Nat}(I:Inv X pins σ H s)(hH:H l=some (.lst xs))
  (e:s.heap.get? l=some { cls:=.type "list",data:=.seq its.toArray n }) (hf:f its.toArray=its'.toArray) (hv:Vals ys its') (hz:ys.length≤sizeLine):
  Inv X pins σ (upd H l (.lst ys)) { s with heap:=s.heap.update l (Obj.mapSeq f),toks:=t' }:=by
 have q:=PySem.IsL.update e f
 rw [hf]at q
 refine I.write (x:=l) (e:=l) (by rw [hH];exact trivial) (.inl rfl) (fun b' u hb hu=>(Heap.get?_update_other s.heap (Obj.mapSeq f) (Ne.symm hb)).trans hu) ⟨_,q⟩ ?_
 exact⟨hz,its',_,hv,q⟩
theorem Inv.lnew{its:List Value}{t':Nat}(I:Inv X pins σ H s)(hv:Vals ys its)(hz:ys.length≤sizeLine):
  Inv X pins σ (upd H s.heap.objs.size (.lst ys)) { s with heap:=s.heap.push { cls:=.type "list",data:=.seq its.toArray },toks:=t' }:=
 I.laid (fun _ _ q=>Heap.get?_push_of_some _ q) (ao _) ⟨hz,its,0,hv,Heap.get?_push_size _ rfl⟩
theorem Inv.fresh(I:Inv X pins σ H s):H s.heap.objs.size=none:=I.hok.fresh (ao _)
theorem Inv.lstM(I:Inv X pins σ H s)(hH:H l=some (.lst xs)):xs.length≤sizeLine∧∃(its:List Value) (n:Nat),Vals xs its∧xs.length=its.length∧s.heap.get? l=some { cls:=.type "list",data:=.seq its.toArray n }:=by
 obtain⟨z,its,n,r,e⟩:=I.hok l _ hH
 exact⟨z,its,n,r,r.length,e⟩
theorem y3C{n:Nat}(h:n≤sizeLine):Builtin.List.listTooLong n=false:=by
 unfold Builtin.List.listTooLong
 exact decide_eq_false (by omega)
end
section
variable{X:Cx}
def z8N:V->List V->Hp->VK->Prop:=fun x vs H Q=>∃l xs y,x = .ref l∧vs=[y]∧H l=some (.lst xs)∧xs.length<sizeLine∧Q .non (upd H l (.lst (xs++[y])))
theorem z4S:MtM X "list.append" z8N:=by
 intro pins s σ H x vs v us Q I rx rv h
 obtain⟨l,xs,y,rfl,rfl,hH,hz,q⟩:=h
 cases rx
 obtain⟨u,rfl,ru⟩:=rv.one
 obtain⟨z,its,n,r,hl,e⟩:=I.lstM hH
 refine call_meets F.slot_list_append ⟨_,e,rfl⟩ F.entry_list_append (F.args_list_append_2 _ _) (PySem.list_append l its.toArray n u (by rw [aD];omega)) ⟨e,?_⟩
 refine⟨.non,_,I.lset (its':=its++[u]) hH e (by simp) (r.append (.cons ru .nil)) ?_,rfl,q⟩
 rw [aF,di]
 omega
def rExtend:V->List V->Hp->VK->Prop:=fun x vs H Q=>∃l b xs zs,x = .ref l∧vs=[.ref b]∧H l=some (.lst xs)∧H b=some (.lst zs)∧xs.length+zs.length≤sizeLine∧Q .non (upd H l (.lst (xs++zs)))
theorem y9z:MtM X "list.extend" rExtend:=by
 intro pins s σ H x vs v us Q I rx rv h
 obtain⟨l,b,xs,zs,rfl,rfl,hH,hB,hz,q⟩:=h
 cases rx
 obtain⟨u,rfl,ru⟩:=rv.one
 cases ru
 obtain⟨z,its,n,r,hl,e⟩:=I.lstM hH
 obtain⟨z2,its2,n2,r2,hl2,e2⟩:=I.lstM hB
 have hsz:its.toArray.size+its2.toArray.size≤sizeLine:=by rw [aD,aD];omega
 have hlong:¬ (!its.toArray.isEmpty&&Builtin.List.listTooLong (its.toArray.size+its2.toArray.size))=true:=by
  rw [y3C hsz,dz]
  exact ar
 refine call_meets F.slot_list_extend ⟨_,e,rfl⟩ F.entry_list_extend (F.args_list_extend_2 _ _)
  (AutoSeq1.list_extend_list_list_0 l its.toArray n b its2.toArray n2 hlong (by rw [aD];omega) (by omega)) ⟨e,e2,?_⟩
 refine⟨.non,_,I.lset (its':=its++its2) hH e (by simp) (r.append r2) ?_,rfl,q⟩
 rw [aF]
 omega
def rCat:R2:=fun x y H Q=>∃l b xs zs,x = .ref l∧y = .ref b∧H l=some (.lst xs)∧H b=some (.lst zs)∧xs.length+zs.length≤sizeLine∧∀p,H p=none->Q (.ref p) (upd H p (.lst (xs++zs)))
theorem op_cat:OpR X (binaryOp .Add) rCat:=by
 intro pins s σ H x y v u Q I rx ry h
 obtain⟨l,b,xs,zs,rfl,rfl,hH,hB,hz,q⟩:=h
 cases rx
 cases ry
 obtain⟨z,its,n,r,hl,e⟩:=I.lstM hH
 obtain⟨z2,its2,n2,r2,hl2,e2⟩:=I.lstM hB
 refine PySem.P.add_list e e2 ?_ (by rw [aD,aD];omega)
 have ea:its.toArray++its2.toArray=(its++its2).toArray:=by simp
 rw [ea]
 exact⟨.ref _,_,I.lnew (t':=s.toks) (r.append r2) (by rw [aF];omega),rfl,q _ I.fresh⟩
def rRep:R2:=fun x y H Q=>∃l k xs,x = .ref l∧y = .int k∧H l=some (.lst xs)∧-(2 ^ 63)≤k∧k<2 ^ 63∧xs.length*k.toNat≤sizeLine ∧
 ∀p,H p=none->Q (.ref p) (upd H p (.lst (ak k.toNat xs).flatten))
theorem len_rep{α:Type}(xs:List α)(k:Nat):(ak k xs).flatten.length=k*xs.length:=by
 induction k with
 |zero=>simp
 |succ k ih=>rw [bA,bQ,aF,ih,Nat.succ_mul,Nat.add_comm]
theorem op_rep:OpR X (binaryOp .Mult) rRep:=by
 intro pins s σ H x y v u Q I rx ry h
 obtain⟨l,k,xs,rfl,rfl,hH,h1,h2,hz,q⟩:=h
 cases rx
 obtain⟨t,rfl⟩:=ry
 obtain⟨z,its,n,r,hl,e⟩:=I.lstM hH
 have hlen:its.toArray.size*k.toNat≤sizeLine:=by rw [aD,←hl];exact hz
 have hcap:¬ its.toArray.size*k.toNat>(2 ^ 63 - 1) / 8:=by
  have:(sizeLine:Nat)≤(2 ^ 63 - 1) / 8:=by decide
  omega
 have hfit:¬ (!Builtin.List.listFitsIndex k)=true:=by
  rw [fitsIndex_both h1 h2]
  exact ar
 have hlong:¬ Builtin.List.listTooLong (its.toArray.size*k.toNat)=true:=by
  rw [y3C hlen]
  exact ar
 have hnew:fG (fun x1 x2=>x1++x2) #[] (ak (if its.toArray.isEmpty=true then 0 else k.toNat) its.toArray)=(ak k.toNat its).flatten.toArray:=by
  have f0:∀m:Nat,fG (fun x1 x2=>x1++x2) #[] (ak m its.toArray)=(ak m its).flatten.toArray:=fun m=>by
   have:=y1j its m []
   rw [cP]at this
   exact this
  rw [f0]
  cases its with
  |nil=>simp
  |cons a r'=>rw [if_neg (by simp)]
 refine wpAny_binaryOp_repeat_ref (T := "list") (U := "int") (by decide) ⟨_,e,rfl⟩ (fun s'=>typeIs_int s' k t) noFill_list_mul F.fills_int_mul F.slot_int_rmul repeat_list F.slot_int_index.lookup
  (call_meets F.slot_int_rmul (typeIs_int s k t) F.entry_int_rmul (F.args_int_rmul_2 _ _) (int___rmul___int_list k t l its.toArray n)
   ⟨e,rfl,⟨_,e,rfl⟩,call_meets F.slot_list_mul ⟨_,e,rfl⟩ F.entry_list_mul (F.args_list_mul_2 _ _) (AutoListH.list___mul___list_int_3 l its.toArray n k t hfit hcap hlong) ⟨e,?_⟩⟩)
 rw [hnew]
 exact⟨.ref _,_,I.lnew (t':=s.toks) (r.rep k.toNat) (by rw [len_rep,Nat.mul_comm];exact hz),rfl,q _ I.fresh⟩
end
section
variable{prog:Program}{w:World}{A:Around}{E:Value->Shared->Prop}{s:Shared}
end
section
variable{X:Cx}
end
end L2
namespace Att
open PySem PySem.W PySem.Calls PyProof.Rows
theorem z7J{P:Params}{h:Heap}:∀(ns:List Int) (vs:List Value),WellAll P h vs (ns.map WData.int)->IntsAre vs ns:=by
 intro ns
 induction ns with
 |nil=>
  intro vs w
  rw [cS]at w
  cases w
  exact .nil
 |cons n ns ih=>
  intro vs w
  rw [aG]at w
  cases w with
  |cons a b=>
   cases a
   exact .cons _ _ (ih _ b)
theorem y5S{l:OpenLaw}{n:Nat}(hn:l.most=some n){P:Params}{h:Heap}{args:List WData}{vals:List Value}
  (hpre:l.row.toRowW.claim.pre args=true) (hwl:WellAll P h vals args):
  ∃a vs ns,vals=[Value.ref a]∧args=[WData.list (ns.map WData.int)]∧h.get? a=some { cls:=.type "list",data:=.seq vs.toArray }∧IntsAre vs ns∧ns.length≤n:=by
 have hsh:WShape.hasAll [] args [.list .int]=true:=(pre_splitW hpre).1
 have hc:l.pre.holds [] { args:=args }=true:=(pre_splitW hpre).2
 obtain⟨d,r,rfl,h1,h2⟩:=hasAllW_cons hsh
 obtain rfl:=hasAllW_nil h2
 obtain⟨xs,rfl,h3⟩:=hasW_list h1
 obtain⟨ns,rfl⟩:=items_int h3
 have hlen:ns.length≤n:=by
  unfold OpenLaw.pre at hc
  have h4:(WTm.not (.lt (.lit (.int (n:Int))) (.len (.arg 0)))).holds [] { args:=[.list (ns.map .int)] }=true:=by
   have h4:=(holds_andW hc).1
   rw [hn]at h4
   exact h4
  have h5:=condW_of h4 (w_not (w_lt w_lit (w_len_list (w_arg rfl))))
  rw [am]at h5
  refine Nat.le_of_not_lt fun q=>?_
  have q':(n:Int)<((ns.length:Nat):Int):=by omega
  first
   | (rw [decide_eq_true q']at h5;exact absurd h5 (by decide))
   | (simp at h5;omega)
 cases hwl with
 |cons w1 w2=>
  cases w2
  cases w1 with
  |list ho hall=>exact⟨_,_,ns,rfl,rfl,ho,z7J ns _ hall,hlen⟩
theorem y9H(l:OpenLaw)(args:List WData):l.row.toRowW.claim.post args (.bool true) args=true:=
 postW_of (r:=l.row.toRowW) (X:=(true==true))
  (show WShape.has [] (.bool true) .bool=true by first | rfl | decide | simp [WShape.has,WShape.arms,WShape.armsAll])
  (show(WTm.eq .res (.lit (.bool true))).value [] { args:=args,res:=some (.bool true),after:=args }=some (.bool (true==true)) from w_eq_bool (w_res rfl) w_lit) rfl
theorem attach_call{l:OpenLaw}{n:Nat}{q:Program}{loose:List Str}{XP:(Str->Option Value)->Heap->Prop}{YP:World->Heap->Prop}{d:DefRec}
  (hn:l.most=some n) (hdf:d.params.defaults=[])
  (call:∀(w:World) (s₀ s₁:Shared) (mg mb:Str->Option Value) (fa:Addr) (o:Obj) (pm cd doc:Value) (a:Addr) (vs:List Value) (ns:List Int),
   Ground q loose [] XP w s₀ mg mb s₁.heap->YP w s₁.heap →
   s₁.heap.get? fa=some o->o.data = .func (docDef d.name d.params d.body d.scope pm cd doc)->s₁.heap.CodeRec cd d.name->mg d.name=some (.ref fa) →
   s₁.heap.get? a=some { cls:=.type "list",data:=.seq vs.toArray }->IntsAre vs ns->ns.length≤n->s₁.gens = #[] →
   codeAny (model l.prog w) callerA (.call (.ref fa) ⟨[.ref a],[]⟩) (fun r s'=>r = .ok (.ret (.bool true))∧OldK s₁.heap s'.heap∧s'.os=s₁.os∧AllBare s'.gens) s₁):
  WalkO q loose XP YP l.row.toRowW d [] (fun f vs=>PySem.call f vs):=by
 intro w s₀ s₁ mg mb G Y fa o pm cd doc dV kV ho hd hcd hD hmg hg args vals as hpre hlay hrd hwl hlo
 obtain rfl:dV = .none:=Dflts.none hD hdf
 obtain rfl:kV = .none:=Dflts.noKw hD
 obtain⟨a,vs,ns,rfl,rfl,hobj,hints,hlen⟩:=y5S hn hpre hwl
 refine enter_call (codeAny_mono (call w s₀ s₁ mg mb fa o pm cd doc a vs ns G Y ho (fd_plain hd) hcd hmg hobj hints hlen hg) fun r s' hq=>?_)
 obtain⟨rfl,h2,h3,h4⟩:=hq
 exact⟨.inl ⟨.bool true,.bool true,[],rfl,fun _=>rfl,.bool true,y9H l _,fun _=>⟨List.Pairwise.nil,fun _ hm=>(nomatch hm)⟩⟩,h2,h3,h4⟩
section
variable{prog:Program}{w:World}{A:Around}{E:Value->Shared->Prop}{s:Shared}{K:Frag}
def ledger(h:Heap)(L d:Addr):List (Addr×Obj):=(ad h.objs.size).filterMap fun a=>if a=L∨a=d then none else(h.get? a).map fun o=>(a,o)
end
end Att
namespace L2
open PySem PySem.Spec PyProof.Rows
theorem y0o:∀{vs:List Value} {ns:List Int},IntsAre vs ns->Vals (ns.map V.int) vs
 |_,_,.nil=>.nil
 |_,_,.cons n t h=>.cons ⟨t,rfl⟩ (y0o h)
def Only(H:Hp):Prop:=∀b,H b=none∨∃o xs,H b=some (.frz o (.lst xs))
theorem x1c{P:Program}{w:World}{K:aa}{mg mb:Str->Option Value}{CX:CXT}{k:Nat}{fa a:Addr}{fd:FuncData}{x:Str}{sp:Sp}{s₁:Shared}{vs:List Value}{ns:List Int}
  (KX:K.In s₁.heap) (hns:s₁.heap.Ns mainGlobals mg) (hb:s₁.heap.Ns builtinsNs mb) (hbb:∀x:Str,x ≠ "__name__" → mb x=bootBuiltins x) (hlim:s₁.heap.NoLimit) (hg:s₁.gens = #[])
  (ha:s₁.heap.get? a=some { cls:=.type "list",data:=.seq vs.toArray }) (hi:IntsAre vs ns) (hl:ns.length≤sizeLine) (hr:Room k callerA)
  (F:∀base:Heap,K.In base->base.Ns mainGlobals mg->FnOk P w K mg base CX k fa fd [x] sp) (hbind:∀(s:Shared) (u:Value),BindsTo s fd ⟨[u],[]⟩ [(x,u)])
  (hsp:∀H:Hp,Only H->SqL K H a (ns.map V.int)->sp [.ref a] H (fun v _=>v = .bl true) fun _ _ _=>False)
  (hCX:∀H e s',CX [] H s₁ (fun _ _ _=>False) e s'->False):
  codeAny (model P w) callerA (.call (.ref fa) ⟨[.ref a],[]⟩) (fun r s'=>r = .ok (.ret (.bool true))∧OldK s₁.heap s'.heap∧s'.os=s₁.os∧AllBare s'.gens) s₁:=by
 have rv:=y0o hi
 have lenV:=hi.length
 have core:∀H:Hp,Only H->SqL K H a (ns.map V.int)->HOk P w H s₁.heap->(∀b,H b≠none->b=a)->(H a≠none->K.lookup a=none) →
   codeAny (model P w) callerA (.call (.ref fa) ⟨[.ref a],[]⟩) (fun r s'=>r = .ok (.ret (.bool true))∧OldK s₁.heap s'.heap∧s'.os=s₁.os∧AllBare s'.gens) s₁:=by
  intro H hO hS hok hA hK
  have base_of:∀{b:Addr} {o:Obj},s₁.heap.get? b=some o->H b=none->(x0K s₁.heap H).get? b=some o:=fun e n=>x0t e n
  have noA:∀{b:Addr} {o:Obj} {es:Array DictEntry} {ep:Nat},s₁.heap.get? b=some o->o.data = .dict es ep->H b=none:=fun {b o es ep} e d=>by
   cases q:H b with
   |none=>rfl
   |some u=>
    have e':b=a:=hA b (by rw [q];simp)
    subst e'
    rw [ha]at e;cases e
    have d':Data.seq vs.toArray _=Data.dict es ep:=d
    cases d'
  have nsK:∀{b:Addr} {m:Str->Option Value},s₁.heap.Ns b m->(x0K s₁.heap H).Ns b m:=fun {b m} ⟨o,es,ep,e,d,r⟩=>⟨o,es,ep,base_of e (noA e d),d,r⟩
  have hKb:K.In (x0K s₁.heap H):=fun b o e=>base_of (KX b o e) (by
   cases q:H b with
   |none=>rfl
   |some u=>
    have e':b=a:=hA b (by rw [q];simp)
    subst e'
    rw [hK (by rw [q];simp)]at e;cases e)
  have hM:Mod K mg (x0K s₁.heap H):=⟨hKb,nsK hns,⟨mb,nsK hb,hbb⟩,let⟨mc,h1,h2⟩:=hlim;⟨mc,nsK h1,h2⟩⟩
  have e0:Env0 P w K mg (x0K s₁.heap H) callerA [] s₁ H:=⟨rfl,hM,fun b o e=>of_hidT e,ft (y5V _ _),trivial,fun b hb=>absurd (show b∈([]:List Addr) from hb) (by simp),hok,.of_eq hg⟩
  refine codeAny_mono ((F _ hKb (nsK hns)).run callerA [] s₁ H ⟨[.ref a],[]⟩ [.ref a] [.ref a] _ _ hr e0 (hbind s₁ (.ref a)) (.cons rfl .nil) (hsp H hO hS)) fun r s' h=>?_
  cases r with
  |error e=>exact(hCX H e s' h).elim
  |ok fl=>
   cases fl with
   |next=>exact False.elim h
   |brk=>exact False.elim h
   |cont=>exact False.elim h
   |ret u=>
    obtain⟨v,H',os,bare,un,hok',r',q⟩:=h
    have q':v = .bl true:=q
    subst q'
    obtain rfl:u=Value.bool true:=r'
    refine⟨rfl,OldK.of_keep fun b o e=>?_,os,bare⟩
    cases q:H b with
    |none=>exact un.keep b o e q (by intro z;exact absurd (show b∈([]:List Addr) from z) (by simp)) (by simp)
    |some u=>
     rcases hO b with z | ⟨ob,xs,z⟩
     ·rw [q]at z;cases z
     ·have z2:=un.frzs b ob _ z
      obtain⟨e1,_⟩:=hok b _ z
      obtain⟨e2,_⟩:=hok' b _ z2
      rw [e]at e1;cases e1
      exact e2
 cases hk:K.lookup a with
 |some o=>
  have e:=KX a o hk
  rw [ha]at e
  cases e
  refine core (fun _=>none) (fun _=>.inl rfl) (.inr ⟨_,vs.toArray,_,hk,rfl,rfl,rfl,by rw [aD,lenV];exact hl,by simpa using rv⟩) (fun b u z=>by have z':(none:Option HO)=some u:=z;cases z') (fun b z=>absurd rfl z) fun z=>absurd rfl z
 |none=>
  refine core (fun b=>if b=a then some (.frz { cls:=.type "list",data:=.seq vs.toArray } (.lst (ns.map V.int)))else none) (fun b=>?_) (.inl (.inr ⟨{ cls:=.type "list",data:=.seq vs.toArray },if_pos rfl⟩)) (fun b u z=>?_) (fun b z=>?_) fun _=>hk
  ·by_cases hb:b=a
   ·exact .inr ⟨_,_,if_pos hb⟩
   ·exact .inl (if_neg hb)
  ·by_cases hb:b=a
   ·have z':=(if_pos hb).symm.trans z
    cases z'
    subst hb
    exact⟨ha,by rw [am];exact hl,vs,_,rv,ha⟩
   ·have z':=(if_neg hb).symm.trans z
    cases z'
  ·by_cases hb:b=a
   ·exact hb
   ·exact absurd (if_neg hb) z
end L2
namespace L2
open PySem PySem.Spec PyProof.Rows
abbrev KOf{K:aa}{h:Heap}(_:K.In h):aa:=K
theorem walk_of{l:dR}{n k:Nat}{q:Program}{loose:List Str}{XP:(Str->Option Value)->Heap->Prop}{YP:World->Heap->Prop}{d:DefRec}{K:Params->aa}{CX:World->CXT}{sp:World->Sp}{x:Str}
  (hn:l.most=some n) (hn2:n≤sizeLine) (hdf:d.params.defaults=[]) (hr:Room k callerA)
  (hY:∀(w:World) (h:Heap),YP w h->(K w.params).In h)
  (F:∀(w:World) (mg:Str->Option Value) (fa:Addr) (h:Heap),(K w.params).In h->h.Ns mainGlobals mg->mg d.name=some (.ref fa) →
   ∃fd:FuncData,(∀(s:Shared) (u:Value),BindsTo s fd ⟨[u],[]⟩ [(x,u)]) ∧
    ∀base:Heap,(K w.params).In base->base.Ns mainGlobals mg->FnOk l.prog w (K w.params) mg base (CX w) k fa fd [x] (sp w))
  (hsp:∀(w:World) (H:Hp) (a:Addr) (ns:List Int),ns.length≤n->Only H->SqL (K w.params) H a (ns.map V.int)->sp w [.ref a] H (fun v _=>v = .bl true) fun _ _ _=>False)
  (hCX:∀(w:World) (H:Hp) (s:Shared) (e:Value) (s':Shared),CX w [] H s (fun _ _ _=>False) e s'->False):
  PySem.W.WalkO q loose XP YP l.row.toRowW d [] (fun f vs=>PySem.call f vs):=by
 refine Att.attach_call hn hdf fun w s₀ s₁ mg mb fa o pm cd doc a vs ns G Y ho hd hcd hmg hobj hints hlen hg=>?_
 have KX:=hY w _ Y
 obtain⟨fd,hb,hF⟩:=F w mg fa _ KX G.T.g hmg
 exact x1c KX G.T.g G.T.b G.T.builtins G.T.nolimit hg hobj hints (ba hlen hn2) hr hF hb (fun H hO hS=>hsp w H a ns hlen hO hS) fun H e s'=>hCX w H s₁ e s'
end L2
namespace L2
open PySem PySem.Spec PyProof.Rows
def z2L(s:Stmt):Arguments:=match s with
 |.FunctionDef _ a _ _ _ _ _ _ _ _=>a
 |_=>{ posonlyargs:=[],args:=[],vararg:=none,kwonlyargs:=[],kw_defaults:=[],kwarg:=none,defaults:=[] }
def z1q(s:Stmt):List Stmt:=match s with
 |.FunctionDef _ _ b _ _ _ _ _ _ _=>b
 |_=>[]
def z0e(s:Stmt):Scope:=match s with
 |.FunctionDef _ _ _ _ _ _ sc _ _ _=>sc
 |_=>{ kind:=.function,names:=[],isGenerator:=false,isCoroutine:=false }
abbrev CX0:CXT:=fun _ _ _ _ _ _=>False
abbrev E0:XK:=fun _ _ _=>False
theorem pass0{X:Cx}:y9h CX0 X E0:=fun _ _ _ _ _ _ _ h=>h.elim
structure Fun(K:aa)(x qual:Str)(st:Stmt)(f:Addr)(fd:FuncData):Prop where
 ex:∃(oc:Value) (od:Option Addr) (kV doc pm:Value) (an:Option Addr) (cdv ct:Value) (osl:Array (Option Value)),
  fd=bK x qual (z2L st) (z1q st) (z0e st) .none kV doc pm an cdv ct∧K.lookup f=some ⟨oc,od,.func fd,osl⟩∧df K cdv qual=true
 kp:bV K (.ref f)=true
section
variable{P:Program}{w:World}{K:aa}{mg:Str->Option Value}{base:Heap}
theorem Fun.ok{x qual:Str}{st:Stmt}{f:Addr}{fd:FuncData}{N ps:List Str}{k:Nat}{sp:Sp}(F:Fun K x qual st f fd)(S:FnScope N ps (z0e st))(len:∀vs H Q E,sp vs H Q E->vs.length=ps.length)
  (hbody:∀(cdv:Value) (A:Around) (outer:List Env) (s:Shared) (H:Hp) (vs:List V) (Q:VK) (E:XK),Room k (A.deeper (envOfC qual (z0e st) s.heap.objs.size f cdv))->sp vs H Q E →
   ∃t,PSs (y2F CX0 P w K mg base N qual (z0e st) f cdv A outer s H E).nox (z1q st) t∧t { nx:=fun _ H'=>Q .non H',rt:=Q } (z6X N vs) H):FnOk P w K mg base CX0 (k+1) f fd ps sp:=by
 obtain⟨oc,od,kV,doc,pm,an,cdv,ct,osl,rfl,lk,hcd⟩:=F.ex
 refine fn_of lk hcd S len fun A outer s H vs Q E hr hsp=>?_
 obtain⟨t,h,q⟩:=hbody cdv A outer s H vs Q E hr hsp
 exact⟨t,h.nox,q⟩
theorem Fun.binds{x qual:Str}{st:Stmt}{f:Addr}{fd:FuncData}{ps:List Str}(F:Fun K x qual st f fd)
  (h:∀(kV doc pm:Value) (an:Option Addr) (cdv ct:Value) (us:List Value),us.length=ps.length->bindArgs (bK x qual (z2L st) (z1q st) (z0e st) .none kV doc pm an cdv ct) ⟨us,[]⟩=pure (ps.zip us)):Binds K fd ps []:=by
 obtain⟨oc,od,kV,doc,pm,an,cdv,ct,osl,rfl,lk,hcd⟩:=F.ex
 exact .all (h kV doc pm an cdv ct)
theorem fun_mk{x qual:Str}{st:Stmt}{f:Addr}{oc:Value}{od an:Option Addr}{osl:Array (Option Value)}{kV doc pm cdv ct:Value}(l:K.lookup f=some ⟨oc,od,.func (bK x qual (z2L st) (z1q st) (z0e st) .none kV doc pm an cdv ct),osl⟩)
  (c:df K cdv qual=true) (k:bV K (.ref f)=true):Fun K x qual st f (bK x qual (z2L st) (z1q st) (z0e st) .none kV doc pm an cdv ct):=⟨⟨oc,od,kV,doc,pm,an,cdv,ct,osl,rfl,l,c⟩,k⟩
end
theorem z6Z{n:Nat}(h:n≤1000):n<sizeLine:=cW h (by decide)
section
variable{X:Cx}
theorem pv(i:Nat){x:Str}{pos:Pos}(hN:X.N[i]? = some x:=by rfl)(hv:Vis X.env.scope x:=by first | exact Or.inl rfl | exact Or.inr (Or.inl rfl) | exact Or.inr (Or.inr rfl))(hd:(x==("__debug__" : Str))=false:=by decide)
  (hcd:(x==("__classdict__" : Str))=false:=by decide):PE X (.Name x pos) (y1u i):=pe_var hN hv hd hcd
end
theorem iteF{A B:Prop}(h:B):if false=true then A else B:=by
 rw [if_neg ar]
 exact h
theorem iteT{A B:Prop}(h:A):if true=true then A else B:=by
 rw [if_pos rfl]
 exact h
def Same(H H':Hp):Prop:=∀b o,H b=some o->H' b=some o
theorem Same.refl(H:Hp):Same H H:=fun _ _ h=>h
theorem Same.trans{H H1 H2:Hp}(a:Same H H1)(b:Same H1 H2):Same H H2:=fun c o h=>b c o (a c o h)
theorem Same.free{H H':Hp}(e:Same H H'){l:Addr}(h:H' l=Option.none):H l=Option.none:=by
 cases q:H l with
 |none=>rfl
 |some o=>
  rw [e l o q]at h
  cases h
end L2
namespace L2
open PySem PySem.Spec PyProof.Rows
section
variable{κ:Type}[DecidableEq κ]
def y3k(kvs:List (κ×V))(k:κ):Option V:=(kvs.find? fun kv=>decide (kv.1=k)).map (·.2)
def z8c(kvs:List (κ×V))(k:κ)(v:V):List (κ×V):=
 if(kvs.any fun kv=>decide (kv.1=k))=true then kvs.map (fun kv=>if kv.1=k then(kv.1,v)else kv)else kvs++[(k,v)]
theorem z9O{p:κ×V}{r:List (κ×V)}{k:κ}(e:p.1=k):y3k (p::r) k=some p.2:=by simp [y3k,ck,e]
theorem z9t{p:κ×V}{r:List (κ×V)}{k:κ}(e:¬ p.1=k):y3k (p::r) k=y3k r k:=by simp [y3k,ck,e]
theorem z9c(k:κ):∀kvs:List (κ×V),(kvs.any fun kv=>decide (kv.1=k))=(y3k kvs k).isSome
 |[]=>rfl
 |p::r=>by
  rw [cK]
  by_cases e:p.1=k
  ·simp only [z9O e,decide_eq_true e,e9,fA]
  ·rw [z9t e,decide_eq_false e,eQ];exact z9c k r
theorem z4O(kvs:List (κ×V))(k:κ)(v:V):(z8c kvs k v).length≤kvs.length+1:=by
 unfold z8c
 split
 ·rw [am];omega
 ·rw [aF,aY,d5];omega
theorem RelO.isSome_eq{o:Option V}{u:Option Value}(r:RelO o u):o.isSome=u.isSome:=by
 cases o with
 |none=>cases u with
  |none=>rfl
  |some _=>exact(show False from r).elim
 |some _=>cases u with
  |none=>exact(show False from r).elim
  |some _=>rfl
theorem KV.val{kvs:List (κ×V)}{vs:List (κ×Value)}(r:KV kvs vs)(k:κ):RelO (y3k kvs k) (valueAt vs k):=by
 unfold KV at r
 induction r with
 |nil=>exact True.intro
 | @cons p q ps qs h t ih=>
  obtain⟨h1,h2⟩:=h
  by_cases e:p.1=k
  ·have e':q.1=k:=h1.symm.trans e
   have b:valueAt (q::qs) k=some q.2:=by simp [valueAt,ck,e']
   rw [z9O e,b];exact h2
  ·have e':¬ q.1=k:=fun z=>e (h1.trans z)
   have b:valueAt (q::qs) k=valueAt qs k:=by simp [valueAt,ck,e']
   rw [z9t e,b];exact ih
theorem KV.any{kvs:List (κ×V)}{vs:List (κ×Value)}(r:KV kvs vs)(k:κ):(kvs.any fun kv=>decide (kv.1=k))=vs.any fun kv=>decide (kv.1=k):=by
 unfold KV at r
 induction r with
 |nil=>rfl
 |cons h t ih=>rw [cK,cK,ih,h.1]
theorem KV.repl{kvs:List (κ×V)}{vs:List (κ×Value)}(r:KV kvs vs)(k:κ){y:V}{u:Value}(ry:RelV y u):
  KV (kvs.map fun kv=>if kv.1=k then(kv.1,y)else kv) (vs.map fun kv=>if kv.1=k then(kv.1,u)else kv):=by
 unfold KV at r ⊢
 induction r with
 |nil=>exact .nil
 | @cons p q ps qs h t ih=>
  rw [aG,aG]
  refine .cons ?_ ih
  obtain⟨h1,h2⟩:=h
  by_cases e:p.1=k
  ·rw [if_pos e,if_pos (h1.symm.trans e)];exact⟨h1,ry⟩
  ·rw [if_neg e,if_neg (fun z=>e (h1.trans z))];exact⟨h1,h2⟩
theorem KV.put{kvs:List (κ×V)}{vs:List (κ×Value)}(r:KV kvs vs)(k:κ){y:V}{u:Value}(ry:RelV y u):KV (z8c kvs k y) (stored vs k u):=by
 unfold z8c stored
 rw [r.any k]
 by_cases e:(vs.any fun kv=>decide (kv.1=k))=true
 ·rw [if_pos e,if_pos e];exact r.repl k ry
 ·rw [if_neg e,if_neg e];exact Paired.snoc r ⟨rfl,ry⟩
theorem KV.keys{kvs:List (κ×V)}{vs:List (κ×Value)}(r:KV kvs vs):kvs.map (·.1)=vs.map (·.1):=by
 unfold KV at r
 induction r with
 |nil=>rfl
 |cons h t ih=>rw [aG,aG,ih,h.1]
theorem KV.length{kvs:List (κ×V)}{vs:List (κ×Value)}(r:KV kvs vs):kvs.length=vs.length:=Paired.length r
end
theorem y7K{P:Program}{w:World}{k:Key}{u:Value}(r:RelV (kV k) u):(z0Z P w).is k u=true:=by
 cases k with
 |inl i=>obtain⟨t,e⟩:=(show ∃t,u=Value.int i t from r);subst e;exact y2L P w i t
 |inr x=>obtain⟨t,e⟩:=(show ∃t,u=Value.str x t from r);subst e;exact y2S P w x t
theorem y1g{P:Program}{w:World}:∀{ks:List Key} {us:List Value},Vals (ks.map kV) us->ItemsAre (z0Z P w) ks us
 |[],_,r=>by rw [cS]at r;cases r;exact .nil
 |k::ks,_,r=>by
  rw [aG]at r
  cases r with
  |cons h t=>exact .cons (y7K h) (y1g t)
abbrev KT(H:Hp):List (List Key×V)->List (List Key×Addr×Value)->Prop:=Paired fun p q=>p.1=q.1∧H q.2.1=some (.tup (p.1.map kV))∧RelV p.2 q.2.2
theorem KT.val{H:Hp}{kvs:List (List Key×V)}{xs:List (List Key×Addr×Value)}(r:KT H kvs xs)(k:List Key):RelO (y3k kvs k) ((atKey xs k).map (·.2)):=by
 induction r with
 |nil=>exact True.intro
 | @cons p q ps qs h t ih=>
  obtain⟨h1,_,h2⟩:=h
  by_cases e:p.1=k
  ·have e':q.1=k:=h1.symm.trans e
   have b:atKey (q::qs) k=some q.2:=by simp [atKey,ck,e']
   rw [z9O e,b];exact h2
  ·have e':¬ q.1=k:=fun z=>e (h1.trans z)
   have b:atKey (q::qs) k=atKey qs k:=by simp [atKey,ck,e']
   rw [z9t e,b];exact ih
theorem KT.repl{H:Hp}{kvs:List (List Key×V)}{xs:List (List Key×Addr×Value)}(r:KT H kvs xs)(k:List Key){y:V}{u:Value}(ry:RelV y u):
  KT H (kvs.map fun kv=>if kv.1=k then(kv.1,y)else kv) (xs.map (putAt k u)):=by
 induction r with
 |nil=>exact .nil
 | @cons p q ps qs h t ih=>
  rw [aG,aG]
  refine .cons ?_ ih
  obtain⟨h1,h2,h3⟩:=h
  unfold putAt
  by_cases e:p.1=k
  ·rw [if_pos e,if_pos (h1.symm.trans e)];exact⟨h1,h2,ry⟩
  ·rw [if_neg e,if_neg (fun z=>e (h1.trans z))];exact⟨h1,h2,h3⟩
theorem KT.put{H:Hp}{kvs:List (List Key×V)}{xs:List (List Key×Addr×Value)}(r:KT H kvs xs)(k:List Key){b:Addr}{y:V}{u:Value}(hb:H b=some (.tup (k.map kV)))(ry:RelV y u):
  KT H (z8c kvs k y) (storedH xs k b u):=by
 have e:(kvs.any fun kv=>decide (kv.1=k))=(atKey xs k).isSome:=by
  rw [z9c,(r.val k).isSome_eq,dG]
 unfold z8c storedH
 rw [e]
 by_cases q:(atKey xs k).isSome=true
 ·rw [if_pos q,if_pos q];exact r.repl k ry
 ·rw [if_neg q,if_neg q];exact Paired.snoc r ⟨rfl,hb,ry⟩
theorem KT.keeps{H H':Hp}{kvs:List (List Key×V)}{xs:List (List Key×Addr×Value)}(r:KT H kvs xs)(ht:∀b ys,H b=some (.tup ys)->H' b=some (.tup ys)):KT H' kvs xs:=
 Paired.mapP r fun _ _ z=>⟨z.1,ht _ _ z.2.1,z.2.2⟩
section
variable{P:Program}{w:World}{H:Hp}{h:Heap}{a:Addr}
theorem rd_of{u:HO}(ok:HOk P w H h)(e:Rd H a u):ObjOk P w H h a u:=e.ok ok
theorem dk_rd{kvs:List (Key×V)}(ok:HOk P w H h)(e:Rd H a (.dK kvs)):kvs.length≤sizeLine∧(a==sysModules)=false∧∃vs,KV kvs vs∧h.DictOf (z0Z P w) a vs:=
 show ObjOk P w H h a (.dK kvs) from rd_of ok e
theorem dk_of{kvs:List (Key×V)}(ok:HOk P w H h)(e:H a=some (.dK kvs)):kvs.length≤sizeLine∧(a==sysModules)=false∧∃vs,KV kvs vs∧h.DictOf (z0Z P w) a vs:=dk_rd ok (.inl e)
theorem y4i{ks:List Key}(ok:HOk P w H h)(e:H a=some (.tup (ks.map kV))):(tupleKind (z0Z P w)).is h ks a:=by
 obtain⟨_,its,r,o,h1,h2,n,h3⟩:=(show ObjOk P w H h a (.tup (ks.map kV)) from ok a _ e)
 exact⟨o,its.toArray,n,h1,h2.1,h3,by simpa using y1g r⟩
theorem dt_rd{kvs:List (List Key×V)}(ok:HOk P w H h)(e:Rd H a (.dT kvs)):kvs.length≤sizeLine∧(a==sysModules)=false ∧
  ∃xs,KT H kvs xs∧h.DictOfH (tupleKind (z0Z P w)) a xs:=by
 obtain⟨z,y,xs,r,o,es,ep,h1,h2,h3,h4,h5⟩:=(show ObjOk P w H h a (.dT kvs) from rd_of ok e)
 refine⟨z,y,xs,r,o,es,ep,h1,h2,h3,h4,fun x hx=>?_,h5⟩
 have all:∀{l:List (List Key×V)} {m:List (List Key×Addr×Value)},KT H l m->∀x∈m,(tupleKind (z0Z P w)).is h x.1 x.2.1:=by
  intro l m q
  induction q with
  |nil=>intro x hx;exact nomatch hx
  | @cons p q ps qs hq t ih=>
   intro x hx
   rcases ai.mp hx with e | hx
   ·subst e
    exact y4i ok (by rw [←hq.1];exact hq.2.1)
   ·exact ih x hx
 exact all r x hx
theorem dt_of{kvs:List (List Key×V)}(ok:HOk P w H h)(e:H a=some (.dT kvs)):kvs.length≤sizeLine∧(a==sysModules)=false ∧
  ∃xs,KT H kvs xs∧h.DictOfH (tupleKind (z0Z P w)) a xs:=dt_rd ok (.inl e)
end
def DGet(H:Hp)(a:Addr)(y:V)(r:Option V):Prop:=
 (∃kvs k,Rd H a (.dK kvs)∧y=kV k∧r=y3k kvs k)∨∃kvs k b,Rd H a (.dT kvs)∧y = .ref b∧H b=some (.tup (k.map kV))∧r=y3k kvs k
def DPut(H:Hp)(a:Addr)(y v:V)(H':Hp):Prop:=
 (∃kvs k,H a=some (.dK kvs)∧y=kV k∧kvs.length<sizeLine∧H'=upd H a (.dK (z8c kvs k v))) ∨
 ∃kvs k b,H a=some (.dT kvs)∧y = .ref b∧H b=some (.tup (k.map kV))∧kvs.length<sizeLine∧H'=upd H a (.dT (z8c kvs k v))
theorem DGet.k{H:Hp}{a:Addr}{kvs:List (Key×V)}{k:Key}(e:H a=some (.dK kvs)):DGet H a (kV k) (y3k kvs k):=.inl ⟨kvs,k,.inl e,rfl,rfl⟩
theorem DPut.k{H:Hp}{a:Addr}{kvs:List (Key×V)}{k:Key}{v:V}(e:H a=some (.dK kvs))(hl:kvs.length<sizeLine):DPut H a (kV k) v (upd H a (.dK (z8c kvs k v))):=.inl ⟨kvs,k,e,rfl,hl,rfl⟩
section
variable{X:Cx}{pins:List (Addr×Obj)}{σ:St}{H:Hp}{s:Shared}{a:Addr}{y v:V}{u r:Value}{o:Option V}{A:Around}{E:Value->Shared->Prop}
theorem Inv.big(I:Inv X pins σ H s):sysModules<s.heap.objs.size:=by
 have h:mainGlobals<s.heap.objs.size:=(I.mod.glob.keeps I.bk).lt
 exact fg (by decide) h
theorem d_in{Q:Value->Shared->Prop}(hu:A.units+1<cLine)(I:Inv X pins σ H s)(g:DGet H a y o)(ry:RelV y u)(h:∀s',Inv X pins σ H s'->Q (.bool o.isSome) s'):
  wpAny (model X.prog X.w) A (compareOp .In u (.ref a)) Q E s:=by
 rcases g with⟨kvs,k,e,ey,l⟩ | ⟨kvs,k,b,e,ey,eb,l⟩
 ·subst ey
  obtain⟨z,hd,vs,rel,dd⟩:=dk_rd I.hok e
  refine wpAny_in_of (y7K ry) hd dd.mapOf ?_
  rw [←(rel.val k).isSome_eq,←l]
  exact h _ (I.tok _)
 ·subst ey
  cases (show u=Value.ref b from ry)
  obtain⟨z,hd,xs,rel,dd⟩:=dt_rd I.hok e
  refine wpAny_in_heap (tupleKind_room_in1 hu) (y4i I.hok eb) hd dd ?_
  have q:=(rel.val k).isSome_eq
  rw [dG]at q
  rw [←q,←l]
  exact h _ (I.tok _)
theorem d_notIn{Q:Value->Shared->Prop}(hu:A.units+1<cLine)(I:Inv X pins σ H s)(g:DGet H a y o)(ry:RelV y u)(h:∀s',Inv X pins σ H s'->Q (.bool (!o.isSome)) s'):
  wpAny (model X.prog X.w) A (compareOp .NotIn u (.ref a)) Q E s:=by
 rcases g with⟨kvs,k,e,ey,l⟩ | ⟨kvs,k,b,e,ey,eb,l⟩
 ·subst ey
  obtain⟨z,hd,vs,rel,dd⟩:=dk_rd I.hok e
  refine wpAny_notIn_of (y7K ry) hd dd.mapOf ?_
  rw [←(rel.val k).isSome_eq,←l]
  exact h _ (I.tok _)
 ·subst ey
  cases (show u=Value.ref b from ry)
  obtain⟨z,hd,xs,rel,dd⟩:=dt_rd I.hok e
  refine wpAny_notIn_heap (tupleKind_room_in1 hu) (y4i I.hok eb) hd dd ?_
  have q:=(rel.val k).isSome_eq
  rw [dG]at q
  rw [←q,←l]
  exact h _ (I.tok _)
theorem y1V{h':Heap}{t':Nat}{ob:HO}(I:Inv X pins σ H s)(mu:Mut (H a))(hs:Heap.SameBut a s.heap h')(he:∃q,h'.get? a=some q)(new:ObjOk X.prog X.w (upd H a ob) h' a ob):
  Inv X pins σ (upd H a ob) { s with heap:=h',toks:=t' }:=
 I.write (x:=a) (e:=a) mu (.inl rfl) (fun b q hb z=>(hs.2 b hb).trans z) he new
theorem x3x{P:Program}{w:World}{H':Hp}{h':Heap}{kvs:List (Key×V)}{vs:List (Key×Value)}(z:kvs.length≤sizeLine)(hd:(a==sysModules)=false)(rel:KV kvs vs)(dd:h'.DictOf (z0Z P w) a vs):
  ObjOk P w H' h' a (.dK kvs):=⟨z,hd,vs,rel,dd⟩
theorem y8s{H':Hp}{Q:Unit->Shared->Prop}(hu:A.units+1<cLine)(I:Inv X pins σ H s)(g:DPut H a y v H')(ry:RelV y u)(rv:RelV v r)(h:∀s',Inv X pins σ H' s'->Q () s'):
  wpAny (model X.prog X.w) A (setItem (.ref a) u r) Q E s:=by
 rcases g with⟨kvs,k,e,ey,l,eH⟩ | ⟨kvs,k,b,e,ey,eb,l,eH⟩
 ·subst ey eH
  obtain⟨z,hd,vs,rel,dd⟩:=dk_of I.hok e
  have hz:vs.length≤sizeLine:=by rw [←rel.length];exact z
  have hl:(z8c kvs k v).length≤sizeLine:=by have:=z4O kvs k v;omega
  refine wpAny_setItem_pairs (hsz:=hz) (y7K ry) dd fun h' dd' hs=>h _ ?_
  have he:∃q,h'.get? a=some q:=let⟨q,_,_,hq,_⟩:=dd';⟨q,hq⟩
  exact y1V I (by rw [e];exact True.intro) hs he (x3x hl hd (rel.put k rv) dd')
 ·subst ey eH
  cases (show u=Value.ref b from ry)
  obtain⟨z,hd,xs,rel,dd⟩:=dt_of I.hok e
  have hz:xs.length≤sizeLine:=by rw [←Paired.length rel];exact z
  have hl:(z8c kvs k v).length≤sizeLine:=by have:=z4O kvs k v;omega
  refine wpAny_setItem_heap (hsz:=hz) (tupleKind_room_in1 hu) (y4i I.hok eb) dd fun h' dd' hs=>h _ ?_
  obtain⟨q,es,ep,hq,h2,h3,h4,_,h5⟩:=dd'
  refine y1V I (by rw [e];exact True.intro) hs ⟨q,hq⟩ ⟨hl,hd,_,(rel.put k eb rv).keeps fun c ys ec=>?_,q,es,ep,hq,h2,h3,h4,h5⟩
  rw [z0q (ne_of ec e (fun z=>nomatch z))]
  exact ec
end
section
variable{X:Cx}{pins:List (Addr×Obj)}{σ:St}{H:Hp}{s:Shared}{a:Addr}{kvs:List (Key×V)}{k:Key}{u:Value}{A:Around}{E:Value->Shared->Prop}
end
def tDIn(ty td:TE):TE:=fun σ H Q=>ty σ H fun y H1=>td σ H1 fun x H2=>∃a o,x = .ref a∧DGet H2 a y o∧Q (.bl o.isSome) H2
def tDNotIn(ty td:TE):TE:=fun σ H Q=>ty σ H fun y H1=>td σ H1 fun x H2=>∃a o,x = .ref a∧DGet H2 a y o∧Q (.bl (!o.isSome)) H2
def sDPut(td ty tv:TE):TS:=fun D σ H=>tv σ H fun v H1=>td σ H1 fun x H2=>ty σ H2 fun y H3=>∃a H4,x = .ref a∧DPut H3 a y v H4∧D.nx σ H4
section
variable{X:Cx}{o i e value:Expr}{pos pos' tpos:Pos}{td ty tv:TE}
theorem pc_din(hu:X.A.units+1<cLine)(hi:PE X i ty)(ho:PE X o td):PC X .In i o (tDIn ty td):=by
 intro pins s σ H Q I h
 refine thn (hi pins s σ H _ I h) fun iv s1 ⟨y,H1,I1,ry,q1⟩=>thn (ho pins s1 σ H1 _ I1 q1) fun u s2 ⟨x,H2,I2,rx,a,ov,ex,g,q2⟩=>?_
 subst ex
 obtain rfl:u=Value.ref a:=rx
 exact d_in hu I2 g ry fun s3 I3=>⟨.bl ov.isSome,H2,I3,rfl,q2⟩
theorem y6p(hu:X.A.units+1<cLine)(hi:PE X i ty)(ho:PE X o td):PC X .NotIn i o (tDNotIn ty td):=by
 intro pins s σ H Q I h
 refine thn (hi pins s σ H _ I h) fun iv s1 ⟨y,H1,I1,ry,q1⟩=>thn (ho pins s1 σ H1 _ I1 q1) fun u s2 ⟨x,H2,I2,rx,a,ov,ex,g,q2⟩=>?_
 subst ex
 obtain rfl:u=Value.ref a:=rx
 exact d_notIn hu I2 g ry fun s3 I3=>⟨.bl (!ov.isSome),H2,I3,rfl,q2⟩
theorem ps_dput(hu:X.A.units+1<cLine)(ho:PE X o td)(hi:PE X i ty)(hv:PE X value tv)(hs:swapsWith value (some (.Subscript o i pos')) pos.line X.env=pure false):
  PS X (.Assign [.Subscript o i pos'] value pos) (sDPut td ty tv):=by
 intro pins s σ H D I h
 refine wpAny_Assign_Subscript (thn (hv pins s σ H _ I h) fun r s1 ⟨v,H1,I1,rv,q1⟩=>thn (ho pins s1 σ H1 _ I1 q1) fun u s2 ⟨x,H2,I2,rx,q2⟩=>thn (hi pins s2 σ H2 _ I2 q2) fun iv s3 ⟨y,H3,I3,ry,a,H4,ex,g,q3⟩=>?_) hs
 subst ex
 obtain rfl:u=Value.ref a:=rx
 exact y8s hu I3 g ry rv fun s4 I4=>⟨σ,H4,I4,q3⟩
end
theorem y4j{P:Program}{w:World}{H:Hp}(h:Heap)(hb:sysModules<h.objs.size):ObjOk P w H (h.push { cls:=.type "dict",data:=.dict #[] }) h.objs.size (.dK []):=
 ⟨bX _,beq_eq_false_iff_ne.mpr (Ne.symm (aC hb)),[],.nil,Heap.DictOf.new h⟩
def tDNewK:TE:=fun _ H Q=>∀p,H p=none->Q (.ref p) (upd H p (.dK []))
section
variable{X:Cx}{pos:Pos}
theorem pe_dnewK:PE X (.Dict [] [] pos) tDNewK:=fun pins s σ H Q I h=>
 wpAny_Dict_empty ⟨.ref s.heap.objs.size,_,I.laid (a:=s.heap.objs.size) (o:=.dK []) (t':=s.toks) (fun _ _ q=>Heap.get?_push_of_some _ q) (ao _) (y4j s.heap I.big),rfl,h _ (I.hok.fresh (ao _))⟩
end
def y7c:List (TE×TE)->St->Hp->(List (V×V)->Hp->Prop)->Prop
 |[],_,H,Q=>Q [] H
 | (tk,tv)::r,σ,H,Q=>tk σ H fun x H1=>tv σ H1 fun y H2=>y7c r σ H2 fun ps H3=>Q ((x,y)::ps) H3
abbrev VV:List (V×V)->List (Value×Value)->Prop:=Paired fun p q=>RelV p.1 q.1∧RelV p.2 q.2
def PPs(X:Cx)(pos:Pos)(keys:List (Option Expr))(values:List Expr)(trs:List (TE×TE)):Prop:=
 ∀(pins:List (Addr×Obj)) (s:Shared) (σ:St) (H:Hp) (Q:List (V×V)->Hp->Prop),Inv X pins σ H s->y7c trs σ H Q →
  wpAny (model X.prog X.w) X.A (evalPairs (pairTrees keys values X.env pos)) (fun vs s'=>∃ps H',Inv X pins σ H' s'∧VV ps vs∧Q ps H') X.xe s
theorem pps_nil{X:Cx}{pos:Pos}:PPs X pos [] [] []:=fun pins s σ H Q I h=>pairTrees_nil_walk ⟨[],H,I,.nil,h⟩
theorem x1k{X:Cx}{pos:Pos}{k v:Expr}{ks:List (Option Expr)}{vs:List Expr}{tk tv:TE}{trs:List (TE×TE)}(hk:PE X k tk)(hv:PE X v tv)(hr:PPs X pos ks vs trs):
  PPs X pos (some k::ks) (v::vs) ((tk,tv)::trs):=fun pins s σ H Q I h=>
 pairTrees_cons_walk (thn (hk pins s σ H _ I h) fun u s1 ⟨x,H1,I1,rx,q1⟩=>thn (hv pins s1 σ H1 _ I1 q1) fun w2 s2 ⟨y,H2,I2,ry,q2⟩=>
  thn (hr pins s2 σ H2 _ I2 q2) fun ws s3 ⟨ps,H3,I3,rel,q3⟩=>⟨(x,y)::ps,H3,I3,.cons ⟨rx,ry⟩ rel,q3⟩)
def y1p(kvs more:List (Key×V)):List (Key×V):=more.foldl (fun acc kv=>z8c acc kv.1 kv.2) kvs
theorem KV.merge:∀{more:List (Key×V)} {rs:List (Key×Value)} {kvs:List (Key×V)} {vs:List (Key×Value)},KV more rs->KV kvs vs->KV (y1p kvs more) (merged vs rs):=by
 intro more rs kvs vs r
 unfold KV at r
 induction r generalizing kvs vs with
 |nil=>intro q;exact q
 | @cons p q ps qs h t ih=>
  intro r0
  have e:KV (z8c kvs p.1 p.2) (stored vs q.1 q.2):=by
   have:=r0.put p.1 h.2
   rw [←h.1];exact this
  exact ih e
theorem z4T:∀(more kvs:List (Key×V)),(y1p kvs more).length≤kvs.length+more.length
 |[],kvs=>by show kvs.length≤kvs.length+0;omega
 |p::r,kvs=>by
  have h1:=z4T r (z8c kvs p.1 p.2)
  have h2:=z4O kvs p.1 p.2
  show(y1p (z8c kvs p.1 p.2) r).length≤_
  rw [aY];omega
theorem z8i{P:Program}{w:World}:∀{kvs:List (Key×V)} {ws:List (Value×Value)},VV (kvs.map fun kv=>(kV kv.1,kv.2)) ws->∃rs,Carries (z0Z P w) ws rs∧KV kvs rs
 |[],_,r=>by rw [cS]at r;cases r;exact⟨[],True.intro,.nil⟩
 |p::kvs,_,r=>by
  rw [aG]at r
  cases r with
  | @cons a b as bs h t=>
   obtain⟨rs,c,q⟩:=z8i (P:=P) (w:=w) t
   obtain⟨b1,b2⟩:=b
   exact⟨(p.1,b2)::rs,⟨y7K h.1,rfl,c⟩,.cons ⟨rfl,h.2⟩ q⟩
def tDisp(trs:List (TE×TE)):TE:=fun σ H Q=>∀p,H p=none->y7c trs σ (upd H p (.dK [])) fun ps H2=>H2 p=some (.dK [])∧∃kvs:List (Key×V),ps=kvs.map (fun kv=>(kV kv.1,kv.2))∧kvs.length≤15∧Q (.ref p) (upd H2 p (.dK (y1p [] kvs)))
theorem pe_disp{X:Cx}{pos:Pos}{keys:List (Option Expr)}{values:List Expr}{trs:List (TE×TE)}(h:PPs X pos keys values trs)(hall:keys.all (·.isSome)=true)(hl:keys.length=values.length)(h0:keys≠[])
  (h15:keys.length≤15):PE X (.Dict keys values pos) (tDisp trs):=by
 intro pins s σ H Q I q
 have hn:=I.hok.fresh (ao s.heap.objs.size)
 have I1:=I.laid (a:=s.heap.objs.size) (o:=.dK []) (h':=s.heap.push { cls:=.type "dict",data:=.dict #[] }) (t':=s.toks) (fun _ _ q=>Heap.get?_push_of_some _ q) (ao _) (y4j s.heap I.big)
 refine wpAny_Dict_walk (knd:=z0Z X.prog X.w) hall hl h0 h15 (thn (h pins _ σ _ _ I1 (q _ hn)) fun ws s2 ⟨ps,H2,I2,rel,e,kvs,ep,lk,q2⟩=>?_)
 subst ep
 obtain⟨rs,c,rk⟩:=z8i (P:=X.prog) (w:=X.w) rel
 obtain⟨z,hd,vs0,r0,dd⟩:=dk_of I2.hok e
 cases r0
 refine⟨rs,c,dd,fun h' dd' hs=>⟨.ref s.heap.objs.size,_,?_,rfl,q2⟩⟩
 have hz:(y1p [] kvs).length≤sizeLine:=by
  have h1:=z4T kvs []
  rw [d5]at h1
  rw [sizeLine_eq];omega
 have he:∃q,h'.get? s.heap.objs.size=some q:=let⟨q,_,_,hq,_⟩:=dd';⟨q,hq⟩
 exact y1V I2 (by rw [e];exact True.intro) hs he (x3x hz hd (rk.merge .nil) dd')
structure M1(X:Cx)(o:Expr)(m:Str)(apos:Pos)(e:Expr)(cpos:Pos):Prop where
 base:attributeBase o m X.env (eval o X.env)=eval o X.env
 few:((backTo cpos (starEach [e] X.env)).all (fun x=>!x.1)&&(backToKw cpos (keywordEach [] X.env)).all (fun x=>x.1.isSome)
  && decide (([e]:List Expr).length+([]:List Keyword).length+(if([]:List Keyword).isEmpty then 0 else 1)<30))=true
 line:(apos.endLine==cpos.line)=true
 trees:backTo cpos (starEach [e] X.env)=[(false,eval e X.env)]
structure M2(X:Cx)(o:Expr)(m:Str)(apos:Pos)(e f:Expr)(cpos:Pos):Prop where
 base:attributeBase o m X.env (eval o X.env)=eval o X.env
 few:((backTo cpos (starEach [e,f] X.env)).all (fun x=>!x.1)&&(backToKw cpos (keywordEach [] X.env)).all (fun x=>x.1.isSome)
  && decide (([e,f]:List Expr).length+([]:List Keyword).length+(if([]:List Keyword).isEmpty then 0 else 1)<30))=true
 line:(apos.endLine==cpos.line)=true
 trees:backTo cpos (starEach [e,f] X.env)=[(false,eval e X.env),(false,eval f X.env)]
section
variable{X:Cx}{pins:List (Addr×Obj)}{σ:St}{H:Hp}{s:Shared}{a:Addr}{y d:V}{u r:Value}{o:Option V}{A:Around}{E:Value->Shared->Prop}
end
section
variable{X:Cx}{o e f:Expr}{apos cpos:Pos}{td ty tx:TE}
end
section
variable{X:Cx}{pins:List (Addr×Obj)}{σ:St}{H:Hp}{s:Shared}{a:Addr}{kvs:List (Key×V)}{A:Around}{E:Value->Shared->Prop}
end
section
variable{X:Cx}{pins:List (Addr×Obj)}{σ:St}{H:Hp}{s:Shared}{a:Addr}{y:V}{u:Value}{A:Around}{E:Value->Shared->Prop}
end
end L2
namespace L2
open PySem PySem.Spec PyProof.Rows
def z2U(cells:List (Str×Addr)):List (Str×NameKind)->List (Str×Addr)->List (Str×Addr)
 |[],acc=>acc
 | (n,k)::r,acc=>if k == .free then z2U cells r ((n,(cells.lookup n).getD 0)::acc)else z2U cells r acc
theorem z7y{env:Env}(f:Str×NameKind->List (Str×Addr)->Sem (ForInStep (List (Str×Addr))))
  (hf:∀n k cs,f (n,k) cs=if k == .free then(do let a ←cellOf env n;pure (.yield ((n,a)::cs)))else pure (.yield cs)):
  ∀(names:List (Str×NameKind)) (acc:List (Str×Addr)),(∀n,(n,NameKind.free)∈names->∃c,env.cells.lookup n=some c)->forIn names acc f=pure (z2U env.cells names acc)
 |[],acc,_=>by rw [List.forIn_nil];rfl
 | (n,k)::r,acc,h=>by
  have hr:=z7y f hf r
  rw [List.forIn_cons,hf]
  unfold z2U
  by_cases hk:(k==NameKind.free)=true
  ·rw [if_pos hk,if_pos hk]
   have ek:k = .free:=eq_of_beq hk
   subst ek
   obtain⟨c,e⟩:=h n ah
   have e1:cellOf env n=pure c:=by unfold cellOf;rw [e]
   rw [e1,e]
   exact hr _ fun m hm=>h m (ag _ hm)
  ·rw [if_neg hk,if_neg hk]
   exact hr _ fun m hm=>h m (ag _ hm)
theorem z3v{scope:Scope}{env:Env}(h:∀n,(n,NameKind.free)∈scope.names->∃c,env.cells.lookup n=some c):closureFor scope env=pure (z2U env.cells scope.names []):=by
 simp only [closureFor]
 rw [z7y _ (fun n k cs=>by cases hkc:k==NameKind.free <;> simp [hkc]) scope.names [] h]
 rfl
theorem z4c{cells:List (Str×Addr)}:∀(names:List (Str×NameKind)) (acc:List (Str×Addr)) {x:Str} {c:Addr},(x,c)∈z2U cells names acc->(x,c)∈acc∨((x,NameKind.free)∈names∧c=(cells.lookup x).getD 0)
 |[],_,_,_,h=>.inl h
 | (n,k)::r,acc,x,c,h=>by
  unfold z2U at h
  by_cases hk:(k==NameKind.free)=true
  ·rw [if_pos hk]at h
   have ek:k = .free:=eq_of_beq hk
   subst ek
   rcases z4c r _ h with z | ⟨z1,z2⟩
   ·rcases ai.mp z with q | q
    ·cases q
     exact .inr ⟨ah,rfl⟩
    ·exact .inl q
   ·exact .inr ⟨ag _ z1,z2⟩
  ·rw [if_neg hk]at h
   rcases z4c r _ h with z | ⟨z1,z2⟩
   ·exact .inl z
   ·exact .inr ⟨ag _ z1,z2⟩
theorem z2D{α:Type}{x:Str}{c:α}:∀{l:List (Str×α)},(x,c)∈l->(l.lookup x).isSome=true
 | (n,d)::r,h=>by
  rw [cH]
  cases hb:x==n with
  |true=>rfl
  |false=>
   rcases ai.mp h with q | q
   ·cases q
    simp at hb
   ·exact z2D q
theorem z6I{cells:List (Str×Addr)}{x:Str}:∀(names:List (Str×NameKind)) (acc:List (Str×Addr)),(x,NameKind.free)∈names∨(∃c,(x,c)∈acc)->∃c,(x,c)∈z2U cells names acc
 |[],_,h=>h.elim (fun z=>nomatch z) id
 | (n,k)::r,acc,h=>by
  unfold z2U
  by_cases hk:(k==NameKind.free)=true
  ·rw [if_pos hk]
   refine z6I r _ ?_
   rcases h with z | ⟨c,z⟩
   ·rcases ai.mp z with q | q
    ·cases q
     exact .inr ⟨_,ah⟩
    ·exact .inl q
   ·exact .inr ⟨c,ag _ z⟩
  ·rw [if_neg hk]
   refine z6I r _ ?_
   rcases h with z | z
   ·rcases ai.mp z with q | q
    ·cases q
     exact absurd (by rfl) hk
    ·exact .inl q
   ·exact .inr z
theorem z3g:∀(names:List (Str×NameKind)) (h:Heap) (acc:List (Str×Addr)) {x:Str} {c:Addr},(x,c)∈cellsFrom h.objs.size names acc →
  (x,c)∈acc∨((x,NameKind.cell)∈names∧h.objs.size≤c∧(pushCells h names).IsCell c none)
 |[],_,_,_,_,hm=>.inl hm
 | (n,k)::r,h,acc,x,c,hm=>by
  unfold cellsFrom at hm
  unfold pushCells
  by_cases hk:(k==NameKind.cell)=true
  ·rw [if_pos hk]at hm
   rw [if_pos hk]
   have ek:k = .cell:=eq_of_beq hk
   subst ek
   have e:(h.push { cls:=.type "cell",data:=.cell none }).objs.size=h.objs.size+1:=Heap.size_push ..
   rw [←e]at hm
   rcases z3g r _ _ hm with z | ⟨z1,z2,z3⟩
   ·rcases ai.mp z with q | q
    ·cases q
     exact .inr ⟨ah,ao _,⟨_,pushCells_keeps r _ _ _ (Heap.get?_push_size _ rfl),rfl⟩⟩
    ·exact .inl q
   ·exact .inr ⟨ag _ z1,by omega,z3⟩
  ·rw [if_neg hk]at hm
   rw [if_neg hk]
   rcases z3g r h acc hm with z | ⟨z1,z2,z3⟩
   ·exact .inl z
   ·exact .inr ⟨ag _ z1,z2,z3⟩
theorem z3o{x:Str}:∀(names:List (Str×NameKind)) (n:Nat) (acc:List (Str×Addr)),(x,NameKind.cell)∈names∨(∃c,(x,c)∈acc)->∃c,(x,c)∈cellsFrom n names acc
 |[],_,_,h=>h.elim (fun z=>nomatch z) id
 | (y,k)::r,n,acc,h=>by
  unfold cellsFrom
  by_cases hk:(k==NameKind.cell)=true
  ·rw [if_pos hk]
   refine z3o r _ _ ?_
   rcases h with z | ⟨c,z⟩
   ·rcases ai.mp z with q | q
    ·cases q
     exact .inr ⟨_,ah⟩
    ·exact .inl q
   ·exact .inr ⟨c,ag _ z⟩
  ·rw [if_neg hk]
   refine z3o r _ _ ?_
   rcases h with z | z
   ·rcases ai.mp z with q | q
    ·cases q
     exact absurd (by rfl) hk
    ·exact .inl q
   ·exact .inr z
theorem z3b(lo:Nat):∀(names:List (Str×NameKind)) (n:Nat) (acc:List (Str×Addr)),(∀x y c,(x,c)∈acc->(y,c)∈acc->lo≤c->x=y)->(∀p∈acc,p.2<n) →
  ∀x y c,(x,c)∈cellsFrom n names acc->(y,c)∈cellsFrom n names acc->lo≤c->x=y
 |[],_,_,h,_=>h
 | (m,k)::r,n,acc,h,hb=>by
  unfold cellsFrom
  by_cases hk:(k==NameKind.cell)=true
  ·rw [if_pos hk]
   refine z3b lo r (n+1) ((m,n)::acc) (fun x y c hx hy hc=>?_) fun p hp=>?_
   ·rcases ai.mp hx with q | q <;> rcases ai.mp hy with q' | q'
    ·cases q;cases q';rfl
    ·cases q
     exact absurd (hb _ q') (bN _)
    ·cases q'
     exact absurd (hb _ q) (bN _)
    ·exact h x y c q q' hc
   ·rcases ai.mp hp with q | q
    ·cases q;exact c7 _
    ·exact bI (hb p q)
  ·rw [if_neg hk]
   exact z3b lo r n acc h hb
theorem z4q(env:Env)(x:Str):∀names:List (Str×NameKind),
  (names.map fun(n,k)=>if(k==NameKind.free&&env.scope.kind == .function&&env.kindOf n==some .cell)then(n,NameKind.cell)else(n,k)).lookup x =
   (names.lookup x).map fun k=>if(k==NameKind.free&&env.scope.kind == .function&&env.kindOf x==some .cell)then NameKind.cell else k
 |[]=>rfl
 | (n,k)::r=>by
  have ih:=z4q env x r
  show List.lookup x ((if(k==NameKind.free&&env.scope.kind == .function&&env.kindOf n==some .cell)=true then(n,NameKind.cell)else(n,k))::_)=_
  cases hx:x==n with
  |true=>
   have e:=eq_of_beq hx
   subst e
   by_cases hc:(k==NameKind.free&&env.scope.kind == .function&&env.kindOf x==some .cell)=true
   ·rw [if_pos hc]
    simp only [cH,beq_self_eq_true,bH,hc,if_true]
   ·rw [if_neg hc]
    simp only [cH,beq_self_eq_true,bH]
    rw [if_neg hc]
  |false=>
   by_cases hc:(k==NameKind.free&&env.scope.kind == .function&&env.kindOf n==some .cell)=true
   ·rw [if_pos hc];simp only [cH,hx];exact ih
   ·rw [if_neg hc];simp only [cH,hx];exact ih
theorem z2F{M:Model}{A:Around}{E:Value->Shared->Prop}{s:Shared}{scope:Scope}{globals:Addr}{closure:List (Str×Addr)}{qual:Str}{env:Env}{Q:Env->Shared->Prop}
  (hQ:Q (newEnv scope s.heap.objs.size globals (cellsFrom (s.heap.objs.size+1) scope.names closure) qual none .none (some env) builtinsNs)
   { s with heap:=pushCells (s.heap.push { cls:=.type "dict",data:=.dict #[] }) scope.names }):
  wpAny M A (newFunctionEnv scope globals closure [] qual none .none (some env)) Q E s:=by
 simp only [newFunctionEnv,fA,if_true]
 refine wpAny_bind (wpAny_alloc ?_)
 refine wpAny_bind (wpAny_layCells _ (fun name kind cells=>by cases hkc:kind==NameKind.cell <;> simp [hkc]) _ _ _ _ ?_)
 rw [show({ s with heap:=s.heap.push { cls:=.type "dict",data:=.dict #[] } }:Shared).heap.objs.size=s.heap.objs.size+1 from Heap.size_push ..]
 refine wpAny_bind ?_
 rw [List.forIn_nil]
 exact wpAny_pure (wpAny_pure hQ)
def capOk(out names:List (Str×NameKind)):Bool:=names.all fun p=>!(decide (p.2=NameKind.free))||(decide (out.lookup p.1=some NameKind.cell)||decide (out.lookup p.1=some NameKind.free))
def nmOk(N N':List Str)(names:List (Str×NameKind)):Bool:=(ad N.length).all fun i=>match N'[i]? with
 |some y=>decide (names.lookup y=none)||(decide (names.lookup y=some NameKind.free)&&decide (N[i]? = some y))
 |none=>false
structure CompScope(N:List Str)(out:List (Str×NameKind))(N':List Str)(k:Nat)(sc:Scope):Prop where
 kind:sc.kind = .function
 len:N'.length=N.length+k
 cap:capOk out sc.names=true
 nm:nmOk N N' sc.names=true
 uniq:sc.names.all (fun p=>decide (sc.names.lookup p.1=some p.2))=true
def z0F(X:Cx)(N':List Str)(sc:Scope)(s:Shared)(H:Hp)(fp:List Addr)(pins:List (Addr×Obj))(E:Value->Shared->Prop):Cx where
 prog:=X.prog
 w:=X.w
 K:=X.K
 mg:=X.mg
 base:=X.base
 A:=X.A
 N:=N'
 s₀:=s
 H₀:=H
 env:=compEnvC sc (cellsFrom (s.heap.objs.size+1) sc.names (z2U X.env.cells sc.names [])) s.heap.objs.size X.env
 outer:=X.stack
 stack:=X.stack
 ex:=fp
 fn:=fun x=>decide (sc.names.lookup x=some .cell)
 calm:=X.calm
 pn:=X.pn++pins
 xe:=E
section
variable{X:Cx}{N':List Str}{k:Nat}{sc:Scope}{pins:List (Addr×Obj)}{σ:St}{H:Hp}{s:Shared}{fp:List Addr}{E:Value->Shared->Prop}
theorem CompScope.fr(S:CompScope X.N X.env.scope.names N' k sc){x:Str}(h:(x,NameKind.free)∈sc.names):X.env.kindOf x=some .cell∨X.env.kindOf x=some .free:=by
 have q:=aV.mp S.cap _ h
 simp at q
 exact q
theorem CompScope.look{N:List Str}{out:List (Str×NameKind)}(S:CompScope N out N' k sc){x:Str}{kd:NameKind}(h:(x,kd)∈sc.names):sc.names.lookup x=some kd:=by
 have q:=aV.mp S.uniq _ h
 exact of_decide_eq_true q
theorem x0Y(S:CompScope X.N X.env.scope.names N' k sc)(I:Inv X pins σ H s)(hf:∀b∈fp,y0M X pins H b)(hlt:∀b∈fp,b<s.heap.objs.size):
  Inv (z0F X N' sc s H fp pins E) [] (σ++ak k none) H { s with heap:=pushCells (s.heap.push { cls:=.type "dict",data:=.dict #[] }) sc.names }:=by
 have keeps:∀b o,s.heap.get? b=some o->(pushCells (s.heap.push { cls:=.type "dict",data:=.dict #[] }) sc.names).get? b=some o:=fun b o e=>pushCells_keeps _ _ _ _ (Heap.get?_push_of_some _ e)
 have hsz:(s.heap.push { cls:=.type "dict",data:=.dict #[] }).objs.size=s.heap.objs.size+1:=Heap.size_push ..
 have hns:(pushCells (s.heap.push { cls:=.type "dict",data:=.dict #[] }) sc.names).Ns s.heap.objs.size (fun _=>none):=(Heap.Ns.new s.heap (.type "dict")).keeps (pushCells_keeps _ _)
 have frc:∀x,(x,NameKind.free)∈sc.names->∃c,X.env.cells.lookup x=some c:=fun x h=>I.ok.has x (S.fr h)
 have cm:∀x c,(x,c)∈cellsFrom (s.heap.objs.size+1) sc.names (z2U X.env.cells sc.names []) →
   ((x,NameKind.cell)∈sc.names∧s.heap.objs.size+1≤c∧(pushCells (s.heap.push { cls:=.type "dict",data:=.dict #[] }) sc.names).IsCell c none)∨((x,NameKind.free)∈sc.names∧X.env.cells.lookup x=some c):=fun x c h=>by
  rw [←hsz]at h
  rcases z3g _ _ _ h with z | ⟨z1,z2,z3⟩
  ·rcases z4c _ _ z with z | ⟨z1,z2⟩
   ·exact nomatch z
   ·obtain⟨c',e⟩:=frc x z1
    rw [e]at z2
    cases z2
    exact .inr ⟨z1,e⟩
  ·exact .inl ⟨z1,by omega,z3⟩
 have cl:∀x c,(cellsFrom (s.heap.objs.size+1) sc.names (z2U X.env.cells sc.names [])).lookup x=some c->(x,c)∈cellsFrom (s.heap.objs.size+1) sc.names (z2U X.env.cells sc.names []):=fun x c h=>PySem.mem_of_lookup h
 have clt:∀x c,X.env.cells.lookup x=some c->c<s.heap.objs.size:=fun x c h=>by
  obtain⟨v,q⟩:=I.cell x c h
  exact q.lt
 have has:∀x,(x,NameKind.cell)∈sc.names∨(x,NameKind.free)∈sc.names->∃c,(cellsFrom (s.heap.objs.size+1) sc.names (z2U X.env.cells sc.names [])).lookup x=some c:=fun x h=>by
  obtain⟨c,hc⟩:=z3o (x:=x) sc.names (s.heap.objs.size+1) (z2U X.env.cells sc.names []) (h.imp id fun z=>z6I _ _ (.inl z))
  exact cX.mp (z2D hc)
 have kd:∀x kk,(relabel sc X.env).names.lookup x=some kk->∃k0,sc.names.lookup x=some k0∧(kk=k0∨(k0 = .free∧kk = .cell)):=fun x kk h=>by
  have q:=z4q X.env x sc.names
  have h':(sc.names.map fun(n,k)=>if(k==NameKind.free&&X.env.scope.kind == .function&&X.env.kindOf n==some .cell)then(n,NameKind.cell)else(n,k)).lookup x=some kk:=h
  rw [q]at h'
  cases e:sc.names.lookup x with
  |none=>rw [e]at h';cases h'
  |some k0=>
   rw [e]at h'
   simp only [bH,Option.some.injEq]at h'
   refine⟨k0,rfl,?_⟩
   split at h'
   ·rename_i hc
    simp at hc
    exact .inr ⟨hc.1.1,h'.symm⟩
   ·exact .inl h'.symm
 refine⟨⟨I.ok.mod,S.kind,I.ok.glob,I.ok.blt,ao _,?inj,?has,?cab,I.ok.hd,I.ok.frames,.inl rfl,?exf,I.bs,ba I.ok.bsz I.sz,?noex,?exfs,I.stack,I.stkFree⟩,
  rfl,I.bare,Un.kept keeps,⟨_,hns,?loc⟩,?cell,I.hok.fresh (ao _),?freeC,?pin,I.hok.kept keeps,?len⟩
 case inj=>
  intro x y c h1 h2
  rcases cm x c (cl x c h1)with⟨_,l1,_⟩ | ⟨m1,e1⟩
  ·rcases cm y c (cl y c h2)with⟨_,l2,_⟩ | ⟨m2,e2⟩
   ·refine z3b (s.heap.objs.size+1) sc.names (s.heap.objs.size+1) (z2U X.env.cells sc.names []) (fun x y c hx _ hc=>?_) (fun p hp=>?_) x y c (cl x c h1) (cl y c h2) l1
    ·rcases z4c _ _ hx with z | ⟨z1,z2⟩
     ·exact nomatch z
     ·obtain⟨c',e⟩:=frc x z1
      rw [e]at z2
      have z3:c=c':=z2
      subst z3
      exact absurd (clt x c e) (eJ.mpr (b8 hc))
    ·obtain⟨x,c⟩:=p
     rcases z4c _ _ hp with z | ⟨z1,z2⟩
     ·exact nomatch z
     ·obtain⟨c',e⟩:=frc x z1
      rw [e]at z2
      have z3:c=c':=z2
      subst z3
      exact bI (clt x c e)
   ·exact absurd (clt y c e2) (eJ.mpr (b8 l1))
  ·rcases cm y c (cl y c h2)with⟨_,l2,_⟩ | ⟨m2,e2⟩
   ·exact absurd (clt x c e1) (eJ.mpr (b8 l2))
   ·exact I.ok.inj x y c e1 e2
 case has=>
  intro x hx
  refine has x ?_
  rcases hx with hx | hx
  ·obtain⟨k0,e,h⟩:=kd x _ hx
   rcases h with h | ⟨h,_⟩
   ·subst h;exact .inl (PySem.mem_of_lookup e)
   ·subst h;exact .inr (PySem.mem_of_lookup e)
  ·obtain⟨k0,e,h⟩:=kd x _ hx
   rcases h with h | ⟨_,h⟩
   ·subst h;exact .inr (PySem.mem_of_lookup e)
   ·cases h
 case cab=>
  intro x c hfn h
  have hfn':sc.names.lookup x=some NameKind.cell:=of_decide_eq_true hfn
  rcases cm x c (cl x c h)with⟨_,l,_⟩ | ⟨m,_⟩
  ·exact b8 l
  ·rw [S.look m]at hfn';cases hfn'
 case exf=>
  intro b hb
  refine⟨aC (hlt b hb),fun x c h=>?_⟩
  rcases cm x c (cl x c h)with⟨_,l,_⟩ | ⟨_,e⟩
  ·intro z
   subst z
   exact absurd (hlt c hb) (eJ.mpr (b8 l))
  ·exact(hf b hb).2.2.2.2.1 x c e
 case noex=>
  intro b o e hb
  rcases (hf b hb).2.2.2.1 with z | z
  ·exact I.ok.noex b o e z
  ·exact absurd (aM (Heap.lt_size e) (ba I.ok.bsz z)) (bN _)
 case exfs=>exact fun b hb z=>(ai.mp (I.stkSub b z)).elim (hf b hb).2.1 (hf b hb).2.2.1
 case loc=>
  intro i y v h1 h2 h3
  have hl:=I.len
  by_cases hi:i<σ.length
  ·rw [bv hi]at h2
   have q:=aV.mp S.nm i (ae.mpr (by omega))
   have h1':N'[i]? = some y:=h1
   simp only [h1',cR,aH,decide_eq_true_eq]at q
   rcases q with q | ⟨q1,q2⟩
   ·exfalso
    rcases h3 with z | z | z <;> (obtain⟨k0,e,_⟩:=kd y _ z;rw [q]at e;cases e)
   ·have hm:=PySem.mem_of_lookup q1
    obtain⟨m,hn,hloc⟩:=I.loc
    have kk:=S.fr hm
    obtain⟨u,r,l⟩:=hloc i y v q2 h2 (kk.elim (fun z=>.inr (.inl z)) fun z=>.inr (.inr z))
    refine⟨u,r,.inr ⟨?_,?_⟩⟩
    ·rcases h3 with z | z | z
     ·obtain⟨k0,e,h⟩:=kd y _ z
      rw [q1]at e
      cases e
      rcases h with h | ⟨_,h⟩ <;> cases h
     ·exact .inl z
     ·exact .inr z
    ·rcases l with⟨l,_⟩ | ⟨_,c,ec,hc⟩
     ·rcases kk with z | z <;> (rw [z]at l;cases l)
     ·obtain⟨c',e'⟩:=has y (.inr hm)
      refine⟨c',e',?_⟩
      rcases cm y c' (cl y c' e')with⟨m',_⟩ | ⟨_,e2⟩
      ·have:=S.look m'
       rw [q1]at this
       cases this
      ·rw [ec]at e2
       cases e2
       exact hc.keeps keeps
  ·rw [bY (by omega),ca]at h2
   split at h2 <;> cases h2
 case cell=>
  intro x c h
  rcases cm x c (cl x c h)with⟨_,_,q⟩ | ⟨_,e⟩
  ·exact⟨_,q⟩
  ·obtain⟨v,q⟩:=I.cell x c e
   exact⟨v,q.keeps keeps⟩
 case freeC=>
  intro x c h
  rcases cm x c (cl x c h)with⟨_,l,_⟩ | ⟨_,e⟩
  ·exact I.hok.fresh (b8 l)
  ·exact I.freeC x c e
 case pin=>
  intro p hp
  have hp':p∈X.pn++pins:=by
   rcases ay.mp hp with z | z
   ·exact z
   ·exact nomatch z
  obtain⟨e,n,ne,nf,d⟩:=I.pin p hp'
  exact⟨keeps _ _ e,n,aC (Heap.lt_size e),fun z=>(ai.mp (I.stkSub p.1 z)).elim ne nf,d⟩
 case len=>
  show _=N'.length
  rw [aF,dl,S.len,I.len]
theorem y1v{σ':St}{H':Hp}{s':Shared}(I:Inv X pins σ H s)(hf:∀b∈fp,y0M X pins H b)(J:Inv (z0F X N' sc s H fp pins E) [] σ' H' s'):Inv X pins σ H' s':=
 I.call' J.os J.base J.hok J.bare fun b hb=>⟨(hf b hb).2.2.2.1,(hf b hb).2.1,(hf b hb).2.2.2.2.1,(hf b hb).2.2.2.2.2⟩
theorem y7X{H':Hp}{s':Shared}{h':Heap}(I:Inv X pins σ H s)(J:Inv X pins σ H' s')(hn:H' s.heap.objs.size=none)(hb:Heap.SameBut s.heap.objs.size s'.heap h'):Inv X pins σ H' { s' with heap:=h' }:=by
 refine J.turned (t':=s'.toks) (it:=s.heap.objs.size) (fun b o hne e=>(hb.2 b hne).trans e) hn (cA I.lt) (.inr I.sz) (fun x c e=>?_) fun p hp=>?_
 ·obtain⟨v,q⟩:=I.cell x c e
  exact aC q.lt
 ·exact aC (Heap.lt_size (I.pin p hp).1)
end
theorem y1m{prog:Program}{w:World}{A:Around}{R:Result->Shared->Prop}{s:Shared}{elt target iter:Expr}{ifs:List Expr}{scope:Scope}{pos:Pos}{it acc:Value}{env:Env}(I:Nat->Shared->Prop)
  (turn:∀n s,I n s->wpAny (model prog w) A (pyNext it) (fun r s₁=>match r with
   |none=>R (.ok .next) s₁
   |some v=>wpAny (model prog w) A (letOwnedTupleGo target it v) (fun _ s₁'=>wpAny (model prog w) A (assign target env v) (fun _ s₂=>
     wpAny (model prog w) A (forIn ifs true fun c r=>if r=true then do let ok ←isTrue c env (eval c env);pure (ForInStep.yield ok)else pure (ForInStep.yield r)) (fun ok s₃=>
      if ok=true then wpAny (model prog w) A (eval elt env) (fun x s₄=>
       wpAny (model prog w) A (call (.builtin "list.append") [acc,x]) (fun _ s₅=>∃m,m<n∧I m s₅) (notedBy (model prog w) A env fun e s'=>R (.error e) s') s₄) (notedBy (model prog w) A env fun e s'=>R (.error e) s') s₃
      else ∃m,m<n∧I m s₃) (notedBy (model prog w) A env fun e s'=>R (.error e) s') s₂) (notedBy (model prog w) A env fun e s'=>R (.error e) s') s₁') (notedBy (model prog w) A env fun e s'=>R (.error e) s') s₁) (notedBy (model prog w) A env fun e s'=>R (.error e) s') s)
  (n:Nat) (h:I n s):
  codeAny (model prog w) A (.compLoop (.ListComp elt [⟨target,iter,ifs,0⟩] scope pos) 0 it acc env) R s:=by
 refine codeAny_loop rfl I (fun n s hI=>?_) n h
 show wpAny _ A ((compTurn (.ListComp elt [⟨target,iter,ifs,0⟩] scope pos) 0 it acc env).onRaise (fun x=>do noteFrame x env;theTreesLotGoes x)) _ _ s
 refine wpAny_noted ?_
 rw [compTurn_list]
 refine wpAny_bind (wpAny_standAt (wpAny_bind (wpAny_mono (turn n s hI) (fun r s₁ h₁=>?_) fun _ _ h'=>h')))
 cases r with
 |none=>exact wpAny_pure h₁
 |some v=>
  refine wpAny_bind (wpAny_mono h₁ (fun _ s₁' h₁'=>?_) fun _ _ h'=>h')
  refine wpAny_bind (wpAny_mono h₁' (fun _ s₂ h₂=>wpAny_bind (wpAny_mono h₂ (fun ok s₃ h₃=>?_) fun _ _ h'=>h')) fun _ _ h'=>h')
  cases ok with
  |false=>exact wpAny_pure ⟨rfl,h₃⟩
  |true=>
   exact wpAny_bind (wpAny_bind (wpAny_mono h₃ (fun x s₄ h₄=>wpAny_bind (wpAny_mono h₄ (fun _ s₅ h₅=>wpAny_pure (wpAny_pure ⟨rfl,h₅⟩)) fun _ _ h'=>h')) fun _ _ h'=>h'))
def y7f(X:Cx)(ifs:List Expr)(t:TT):Prop:=
 ∀(pins:List (Addr×Obj)) (s:Shared) (σ:St) (H:Hp) (Q:Bool->Hp->Prop),Inv X pins σ H s->t σ H Q →
  wpAny (model X.prog X.w) X.A (forIn ifs true fun c r=>if r=true then do let ok ←isTrue c X.env (eval c X.env);pure (ForInStep.yield ok)else pure (ForInStep.yield r)) (TP X pins σ Q) X.xe s
def tYes:TT:=fun _ H Q=>Q true H
theorem x1P{X:Cx}:y7f X [] tYes:=fun _ _ _ H _ I h=>wpAny_tests_nil ⟨H,I,h⟩
theorem x1Q{X:Cx}{c:Expr}{t:TT}(h:PT X c t):y7f X [c] t:=fun pins s σ H Q I hw=>wpAny_tests_one (h pins s σ H Q I hw)
def y6N(wi:TI)(g:TG)(tc:TT)(te:TE)(k:Nat):TE:=fun σ H Q=>wi σ H fun J H1=>∀D,H1 D=none →
 ∃W:Nat->Nat->St->Hp->Prop,(∃m,W 0 m (σ++ak k none) (upd H1 D (.lst [])))∧∀i m σ' H',W i m σ' H' →
  (J.stop i H'∧Q (.ref D) H')∨(J.go i H'∧∃N:St->Hp->Prop,(∀σ'' H'',N σ'' H''->∃m',m'<m∧W (i+1) m' σ'' H'') ∧
   ∀x H2,J.yld i H' x H2->g x σ' H2 fun σ2 H3=>tc σ2 H3 fun b H4=>if b=true then te σ2 H4 fun y H5=>∃ys,H5 D=some (.lst ys)∧ys.length<sizeLine∧N σ2 (upd H5 D (.lst (ys++[y])))else N σ2 H4)
structure PComp(X:Cx)(N':List Str)(sc:Scope)(tg:Expr)(ifs:List Expr)(elt:Expr)(g:TG)(tc:TT)(te:TE):Prop where
 pg:∀s H fp pins E,PG (z0F X N' sc s H fp pins E) tg g
 pt:∀s H fp pins E,y7f (z0F X N' sc s H fp pins E) ifs tc
 pe:∀s H fp pins E,PE (z0F X N' sc s H fp pins E) elt te
section
variable{X:Cx}{N':List Str}{k:Nat}{sc:Scope}{tg iter elt:Expr}{ifs:List Expr}{pos:Pos}{g:TG}{tc:TT}{te:TE}{wi:TI}
theorem z8y{pins:List (Addr×Obj)}{σ:St}{H:Hp}{s:Shared}{J:It}{fp:List Addr}{it:Addr}{tn:Nat->Heap->Prop}{Q:VK}{E:Value->Shared->Prop}{RR:Value->Addr->Result->Shared->Prop}
  (hc:X.calm=true) (S:CompScope X.N X.env.scope.names N' k sc) {PC:Shared->Hp->(Value->Shared->Prop)->Prop} (P:∀s H E,PC s H E->PG (z0F X N' sc s H fp pins E) tg g∧y7f (z0F X N' sc s H fp pins E) ifs tc∧PE (z0F X N' sc s H fp pins E) elt te)
  (hP:∀D s3 H3,Inv X pins σ H3 s3->(∀b∈fp,y0M X pins H3 b)->PC s3 H3 (notedBy (model X.prog X.w) X.A (compEnvC sc (cellsFrom (s3.heap.objs.size+1) sc.names (z2U X.env.cells sc.names [])) s3.heap.objs.size X.env) fun e s'=>RR (.ref D) s3.heap.objs.size (.error e) s')) (I:Inv X pins σ H s) (T:Turn X.prog X.w X.K tg J fp it tn) (st:tn 0 s.heap) (hf:∀b∈fp,y0M X pins H b)
  (hW:∀D,H D=none->∃W:Nat->Nat->St->Hp->Prop,(∃m,W 0 m (σ++ak k none) (upd H D (.lst [])))∧∀i m σ' H',W i m σ' H' →
   (J.stop i H'∧Q (.ref D) H')∨(J.go i H'∧∃N:St->Hp->Prop,(∀σ'' H'',N σ'' H''->∃m',m'<m∧W (i+1) m' σ'' H'') ∧
    ∀x H2,J.yld i H' x H2->g x σ' H2 fun σ2 H3=>tc σ2 H3 fun b H4=>if b=true then te σ2 H4 fun y H5=>∃ys,H5 D=some (.lst ys)∧ys.length<sizeLine∧N σ2 (upd H5 D (.lst (ys++[y])))else N σ2 H4))
  (hR:∀D s3 H3 σ' H' s' E',Inv X pins σ H3 s3->(∀b∈fp,y0M X pins H3 b)->Inv (z0F X N' sc s3 H3 fp pins E') [] σ' H' s'->Q (.ref D) H'->RR (.ref D) s3.heap.objs.size (.ok .next) s'):
  wpAny (model X.prog X.w) X.A (newList []) (fun acc s₃=>wpAny (model X.prog X.w) X.A (newFunctionEnv sc X.env.globals (z2U X.env.cells sc.names []) [] X.env.qual none .none (some X.env)) (fun cenv s₄=>
   codeAny (model X.prog X.w) X.A (.compStart (.ListComp elt [⟨tg,iter,ifs,0⟩] sc pos) 0 (.ref it) acc { cenv with scope:=relabel sc X.env }) (RR acc cenv.locals) s₄) E s₃) E s:=by
 obtain⟨W,⟨m0,w0⟩,step⟩:=hW s.heap.objs.size (I.hok.fresh (ao _))
 have I3:Inv X pins σ (upd H s.heap.objs.size (.lst [])) { s with heap:=s.heap.push { cls:=.type "list",data:=.seq ([]:List Value).toArray },toks:=s.toks }:=I.lnew (t':=s.toks) .nil (bX _)
 have lt0:∀b∈fp,b<s.heap.objs.size:=fun b hb=>by
  obtain⟨o,e,_⟩:=T.obj 0 _ st b hb
  exact Heap.lt_size e
 have hf3:∀b∈fp,y0M X pins (upd H s.heap.objs.size (.lst [])) b:=fun b hb=>⟨by rw [z0q (aC (lt0 b hb))];exact(hf b hb).1,(hf b hb).2⟩
 have lt3:∀b∈fp,b<(s.heap.push { cls:=.type "list",data:=.seq ([]:List Value).toArray }).objs.size:=fun b hb=>by
  rw [Heap.size_push]
  exact bI (lt0 b hb)
 refine wpAny_newObj_type (z2F ?_)
 generalize hs3:({ s with heap:=s.heap.push { cls:=.type "list",data:=.seq ([]:List Value).toArray },toks:=s.toks }:Shared)=s3 at I3
 have hsh:s3.heap=s.heap.push { cls:=.type "list",data:=.seq ([]:List Value).toArray }:=by rw [←hs3]
 rw [←hsh]at lt3
 have st3:tn 0 s3.heap:=T.keep _ _ _ st fun b _ o e=>by rw [hsh];exact Heap.get?_push_of_some _ e
 show codeAny _ _ (.compStart _ 0 (.ref it) (.ref s.heap.objs.size) (compEnvC sc (cellsFrom (s3.heap.objs.size+1) sc.names (z2U X.env.cells sc.names [])) s3.heap.objs.size X.env)) (RR (.ref s.heap.objs.size) s3.heap.objs.size)
  { s3 with heap:=pushCells (s3.heap.push { cls:=.type "dict",data:=.dict #[] }) sc.names }
 generalize hD:s.heap.objs.size=D at *
 generalize hEn:(notedBy (model X.prog X.w) X.A (compEnvC sc (cellsFrom (s3.heap.objs.size+1) sc.names (z2U X.env.cells sc.names [])) s3.heap.objs.size X.env) fun e s'=>RR (.ref D) s3.heap.objs.size (.error e) s')=En
 have I4:Inv (z0F X N' sc s3 (upd H D (.lst [])) fp pins En) [] (σ++ak k none) (upd H D (.lst [])) { s3 with heap:=pushCells (s3.heap.push { cls:=.type "dict",data:=.dict #[] }) sc.names }:=x0Y S I3 hf3 lt3
 have st4:tn 0 (pushCells (s3.heap.push { cls:=.type "dict",data:=.dict #[] }) sc.names):=T.keep _ _ _ st3 fun b _ o e=>pushCells_keeps _ _ _ _ (Heap.get?_push_of_some _ e)
 have stat:∀{H':Hp},(∀b∈fp,H' b=none)->∀b∈fp,y0M (z0F X N' sc s3 (upd H D (.lst [])) fp pins En) [] H' b:=fun hn b hb=>
  ⟨hn b hb,(I4.ok.exf b hb).1,I4.ok.exfs b hb,.inl hb,(I4.ok.exf b hb).2,fun p hp=>(hf3 b hb).2.2.2.2.2 p (by
   rcases ay.mp hp with z | z
   ·exact z
   ·exact nomatch z)⟩
 obtain⟨Pg,Pt,Pe⟩:=P s3 (upd H D (.lst [])) En (by rw [←hEn];exact hP D s3 _ I3 hf3)
 have loop:codeAny (model X.prog X.w) X.A (.compLoop (.ListComp elt [⟨tg,iter,ifs,0⟩] sc pos) 0 (.ref it) (.ref D) (z0F X N' sc s3 (upd H D (.lst [])) fp pins En).env) (RR (.ref D) s3.heap.objs.size)
   { s3 with heap:=pushCells (s3.heap.push { cls:=.type "dict",data:=.dict #[] }) sc.names }:=by
  refine y1m (fun n s'=>∃i σ' H',Inv (z0F X N' sc s3 (upd H D (.lst [])) fp pins En) [] σ' H' s'∧tn i s'.heap∧(∀b∈fp,H' b=none)∧W i n σ' H') ?_ m0 ⟨0,_,_,I4,st4,fun b hb=>(hf3 b hb).1,w0⟩
  have eEn:(notedBy (model X.prog X.w) X.A (z0F X N' sc s3 (upd H D (.lst [])) fp pins En).env fun e s'=>RR (.ref D) s3.heap.objs.size (.error e) s')=En:=hEn
  rw [eEn]
  rintro n s5 ⟨i,σ5,H5,I5,st5,fr5,w5⟩
  rcases step i n σ5 H5 w5 with⟨stop,qn⟩ | ⟨go,N,hN,turn⟩
  ·refine thn (T.done (z0F X N' sc s3 (upd H D (.lst [])) fp pins En) rfl rfl rfl hc i [] s5 σ5 H5 En I5 (stat fr5) st5 stop) fun r s6 ⟨hr,I6⟩=>?_
   subst hr
   exact hR D s3 _ σ5 H5 s6 En I3 hf3 I6 qn
  ·refine thn (T.item (z0F X N' sc s3 (upd H D (.lst [])) fp pins En) rfl rfl rfl hc i [] s5 σ5 H5 En I5 (stat fr5) st5 go) fun r s6 ⟨u,hr,h6⟩=>?_
   subst hr
   refine thn h6 fun _ s7 ⟨x,H7,I7,r7,y7,st7,fr7⟩=>?_
   have I7':=I7.pinned (stat fr7) (T.obj _ _ st7)
   have back:∀{σ9:St} {H9:Hp} {s9:Shared},Inv (z0F X N' sc s3 (upd H D (.lst [])) fp pins En) ([]++y0B fp s7.heap) σ9 H9 s9->N σ9 H9 →
     ∃m,m<n∧∃i σ' H',Inv (z0F X N' sc s3 (upd H D (.lst [])) fp pins En) [] σ' H' s9∧tn i s9.heap∧(∀b∈fp,H' b=none)∧W i m σ' H':=fun {σ9 H9 s9} I9 n9=>by
    obtain⟨m',hm,w9⟩:=hN σ9 H9 n9
    refine⟨m',hm,i+1,σ9,H9,I9.unpinned,T.keep _ _ _ st7 fun b hb o e=>(I9.pin (b,o) (aT _ (aT _ (z4l hb e)))).1,fun b hb=>?_,w9⟩
    obtain⟨o,e,d⟩:=T.obj _ _ st7 b hb
    exact(I9.pin (b,o) (aT _ (aT _ (z4l hb e)))).2.1
   refine thn (Pg _ s7 σ5 H7 x u _ I7' r7 (turn x H7 y7)) fun _ s8 ⟨σ8,H8,I8,q8⟩=>?_
   refine thn (Pt _ s8 σ8 H8 _ I8 q8) fun ok s9 ⟨H9,I9,q9⟩=>?_
   cases ok with
   |false=>
    rw [if_neg ar]at q9
    rw [if_neg ar]
    exact back I9 q9
   |true=>
    rw [if_pos rfl]at q9
    rw [if_pos rfl]
    refine thn (Pe _ s9 σ8 H9 _ I9 q9) fun y s10 ⟨yv,H10,I10,r10,ys,hys,hl,q10⟩=>?_
    refine thn (z4S _ s10 σ8 H10 (.ref D) [yv] (.ref D) [y] (fun _ H'=>N σ8 H') I10 rfl (.cons r10 .nil) ⟨D,ys,yv,rfl,rfl,hys,hl,q10⟩) fun _ s11 ⟨_,H11,I11,_,q11⟩=>?_
    exact back I11 q11
 exact codeAny_compStart_list loop (T.self X.A 0 _ _ _ st4 loop)
theorem CompScope.names'{N:List Str}{out:List (Str×NameKind)}(S:CompScope N out N' k sc):∀x∈sc.names,x.2 = .local->sc.names.lookup x.1=some .local:=fun x hx e=>by
 obtain⟨n,kd⟩:=x
 have e':kd = .local:=e
 subst e'
 exact S.look hx
theorem y2d(hc:X.calm=true)(S:CompScope X.N X.env.scope.names N' k sc)(hi:PI X tg iter wi)(P:PComp X N' sc tg ifs elt g tc te)(hs:∀x,foldedSetIterable iter X.env x=pure x:=by intro _;rfl):
  PE X (.ListComp elt [⟨tg,iter,ifs,0⟩] sc pos) (y6N wi g tc te k):=by
 intro pins s σ H Q I h
 rw [eval_ListComp]
 refine wpAny_comprehension_free (use:=none) rfl hs (z3v fun n hn=>I.ok.has n (S.fr hn)) S.kind S.names' (thn (hi pins s σ H _ I h) fun v s1 h1=>thn h1 fun itv s2 h2=>?_)
 obtain⟨it,fp,tn,J,H2,e,I2,T,st2,f2,hW⟩:=h2
 subst e
 refine z8y (Q:=Q) (RR:=fun acc C=>compPost (model X.prog X.w) X.A X.xe none (EP X pins σ Q) acc C) (PC:=fun _ _ _=>True) hc S (fun s H E _=>⟨P.pg s H _ _ E,P.pt s H _ _ E,P.pe s H _ _ E⟩) (fun _ _ _ _ _=>trivial) I2 T st2 f2 hW ?_
 intro D s3 H3 σ' H' s' E' I3 f3 J' q
 obtain⟨m,hn,_⟩:=J'.loc
 exact⟨m,hn,fun h' hb=>⟨.ref D,H',y7X I3 (y1v I3 f3 J') J'.free hb,rfl,q⟩⟩
theorem y8f{i:Nat}{y:Str}{py spos:Pos}(hc:X.calm=true)(S:CompScope X.N X.env.scope.names N' k sc)(hN:X.N.Nodup)(hy:X.N[i]? = some y)(hyl:X.env.scope.names.lookup y=some .local)(hi:PI X tg iter wi)(P:PComp X N' sc tg ifs elt g tc te)
  (hsw:swapsWith (.ListComp elt [⟨tg,iter,ifs,0⟩] sc pos) (some (.Name y py)) spos.line X.env=pure true:=by rfl) (hs:∀x,foldedSetIterable iter X.env x=pure x:=by intro _;rfl):
  PS X (.Assign [.Name y py] (.ListComp elt [⟨tg,iter,ifs,0⟩] sc pos) spos) (tAsg (y6N wi g tc te k) (z2r i)):=by
 intro pins s σ H D I h
 rw [exec_Assign_Name_used _ _ _ _ hsw]
 refine wpAny_bind (wpAny_standAt (wpAny_bind ?_))
 show wpAny _ X.A (do let _ ←comprehension (.ListComp elt [⟨tg,iter,ifs,0⟩] sc pos) sc X.env _ (newList []) false (eval iter X.env) (some (assign (.Name y py) X.env))) _ _ s
 refine wpAny_bind (wpAny_mono (wpAny_comprehension_free (use:=some (assign (.Name y py) X.env)) (Q:=fun _ s'=>SP X pins D .next s') rfl hs (z3v fun n hn=>I.ok.has n (S.fr hn)) S.kind S.names'
  (thn (hi pins s σ H _ I h) fun v s1 h1=>thn h1 fun itv s2 h2=>?_)) (fun _ s' hq=>wpAny_pure (wpAny_pure hq)) fun _ _ e=>e)
 obtain⟨it,fp,tn,J,H2,e,I2,T,st2,f2,hW⟩:=h2
 subst e
 refine z8y (Q:=fun v H'=>D.nx (σ.set i (some v)) H') (RR:=fun acc C=>compPost (model X.prog X.w) X.A X.xe (some (assign (.Name y py) X.env)) (fun _ s'=>SP X pins D .next s') acc C) (PC:=fun _ _ _=>True) hc S (fun s H E _=>⟨P.pg s H _ _ E,P.pt s H _ _ E,P.pe s H _ _ E⟩) (fun _ _ _ _ _=>trivial) I2 T st2 f2 hW ?_
 intro a s3 H3 σ' H' s' E' I3 f3 J' q
 have J2:=y1v I3 f3 J'
 obtain⟨m,hn,_⟩:=J'.loc
 show wpAny _ X.A (assign (.Name y py) X.env (.ref a)) _ _ _
 refine wpAny_assign_Name (y0L J2 hN hy (.inl hyl) (v:=.ref a) rfl (fun s4 I4 hsb=>?_) (.inr hyl))
 obtain⟨b,hb,hb'⟩:=hsb
 have hne:b≠s3.heap.objs.size:=by
  rcases hb' with z | z
  ·rw [z];exact aC I3.lt
  ·obtain⟨v,w'⟩:=I3.cell y b z
   exact aC w'.lt
 refine⟨m,hn.sameBut hb (Ne.symm hne),fun h' hb2=>⟨_,H',?_,q⟩⟩
 have I3':Inv X pins (σ.set i (some (.ref a))) H3 s3∨True:=.inr trivial
 refine I4.turned (t':=s4.toks) (it:=s3.heap.objs.size) (fun b o hne e=>(hb2.2 b hne).trans e) J'.free (cA I3.lt) (.inr I3.sz) (fun x c e=>?_) fun p hp=>?_
 ·obtain⟨v,q⟩:=I3.cell x c e
  exact aC q.lt
 ·exact aC (Heap.lt_size (I3.pin p hp).1)
end
end L2
namespace L2
open PySem PySem.Spec PyProof.Rows
inductive D where
 |non | bl (b:Bool) | int (i:Int) | str (x:Str) | lst (xs:List D) | tup (xs:List D) | scr (ns:List Int) | dct (ks:List Key) (xs:List D) | exc (x:Str) | obj (x:Str) (a:Addr) (ks:List Str) (ds:List D) | cel (a:Addr) (ds:List D)
def y7z(K:aa)(C:Addr):Bool:=aU K (.ref C) "__getattribute__" == some (some (.builtin "BaseException.__getattribute__"))&&aU K (.ref C) "__getattr__" == some none&&b6 K C (.type "BaseException")==some true&&(eh K C).isSome&&aU K (.ref C) "__class__" == some (some (.builtin "object.__class__")) &&
 cb K (.builtin "object.__class__") "__get__" == some (some (.builtin "getset_descriptor.__get__"))&&cJ K (.builtin "object.__class__")==some true&&b6 K C (.type "object")==some true &&
 ["bool", "int", "str", "list", "tuple", "dict"].all fun T=>cr K (.ref C) (.type T)==some false
def y5n(K:aa)(C:Addr)(ks:List Str):Bool:=dM K C Str.empty&&fz K C&&fy K C&&aU K (.ref C) "__setattr__" == some (some (.builtin "object.__setattr__")) &&
 aU K (.ref C) "__class__" == some (some (.builtin "object.__class__"))&&cb K (.builtin "object.__class__") "__get__" == some (some (.builtin "getset_descriptor.__get__"))&&cJ K (.builtin "object.__class__")==some true&&b6 K C (.type "object")==some true &&
 (["bool", "int", "str", "list", "tuple", "dict"].all fun T=>cr K (.ref C) (.type T)==some false)&&ks.all fun f=>aU K (.ref C) f==some none
def isX(a C:Addr)(h:Heap):Prop:=∃o,h.get? a=some o∧o.cls = .ref C∧o.dict=none∧PySem.W.notCls o=true
def SqF(K:aa)(H:Hp)(a:Addr)(xs:List V):Prop:=
 (∃o,H a=some (.frz o (.lst xs)))∨∃(o:Obj) (its:Array Value) (n:Nat),K.lookup a=some o∧o.cls = .type "list" ∧ o.dict=none∧o.data = .seq its n∧its.size≤sizeLine∧Vals xs its.toList
theorem SqF.sq{K:aa}{H:Hp}{a:Addr}{xs:List V}(h:SqF K H a xs):SqL K H a xs:=h.elim (fun z=>.inl (.inr z)) .inr
mutual
def Rep(K:aa)(H:Hp)(B:Addr->Prop):D->V->Prop
 |.non,v=>v = .non
 |.bl b,v=>v = .bl b
 |.int i,v=>v = .int i
 |.str x,v=>v = .str x
 |.lst ds,v=>∃a xs,v = .ref a∧¬ B a∧H a=some (.lst xs)∧Reps K H B ds xs
 |.tup ds,v=>∃a xs,v = .ref a∧SqT K H a xs∧Reps K H B ds xs
 |.scr ns,v=>∃a,v = .ref a∧SqF K H a (ns.map V.int)
 |.dct ks ds,v=>∃a kvs,v = .ref a∧¬ B a∧H a=some (.dK kvs)∧kvs.map (·.1)=ks∧Reps K H B ds (kvs.map (·.2))
 |.exc x,v=>∃a C,v = .ref a∧¬ B a∧H a=some (.ext (isX a C))∧aO K mainGlobals x=some (some (.ref C))∧y7z K C=true
 |.obj x a ks ds,v=>∃C dx fs,¬ B a∧H a=some (.ins C dx fs)∧(v = .ref a∧aO K mainGlobals x=some (some (.ref C))∧y5n K C ks=true∧fs.map (·.1)=ks)∧Reps K H B ds (fs.map (·.2))
 |.cel a ds,v=>∃xs,¬ B a∧H a=some (.lst xs)∧v = .ref a∧Reps K H B ds xs
def Reps(K:aa)(H:Hp)(B:Addr->Prop):List D->List V->Prop
 |[],xs=>xs=[]
 |d::ds,xs=>∃x r,xs=x::r∧Rep K H B d x∧Reps K H B ds r
end
mutual
def Tree(K:aa)(H:Hp):D->V->List Addr->Prop
 |.non,v,A=>v = .non∧A=[]
 |.bl b,v,A=>v = .bl b∧A=[]
 |.int i,v,A=>v = .int i∧A=[]
 |.str x,v,A=>v = .str x∧A=[]
 |.lst ds,v,A=>∃a xs B,v = .ref a∧H a=some (.lst xs)∧Trees K H ds xs B∧A=a::B
 |.tup ds,v,A=>∃a xs,v = .ref a∧SqT K H a xs∧Trees K H ds xs A
 |.scr ns,v,A=>(∃a,v = .ref a∧SqF K H a (ns.map V.int))∧A=[]
 |.dct ks ds,v,A=>∃a kvs B,v = .ref a∧H a=some (.dK kvs)∧kvs.map (·.1)=ks∧Trees K H ds (kvs.map (·.2)) B∧A=a::B
 |.exc x,v,A=>∃a C,v = .ref a∧H a=some (.ext (isX a C))∧aO K mainGlobals x=some (some (.ref C))∧y7z K C=true∧A=[a]
 |.obj x a ks ds,v,A=>∃C dx fs A1,H a=some (.ins C dx fs)∧(v = .ref a∧aO K mainGlobals x=some (some (.ref C))∧y5n K C ks=true∧fs.map (·.1)=ks)∧Trees K H ds (fs.map (·.2)) A1∧A=a::A1
 |.cel a ds,v,A=>∃xs B,H a=some (.lst xs)∧v = .ref a∧Trees K H ds xs B∧A=a::B
def Trees(K:aa)(H:Hp):List D->List V->List Addr->Prop
 |[],xs,A=>xs=[]∧A=[]
 |d::ds,xs,A=>∃x r B C,xs=x::r∧Tree K H d x B∧Trees K H ds r C∧A=B++C
end
mutual
def D.imm:D->Bool
 |.non=>true
 |.bl _=>true
 |.int _=>true
 |.str _=>true
 |.lst _=>false
 |.tup ds=>z1P ds
 |.scr _=>true
 |.dct _ _=>false
 |.exc _=>false
 |.obj _ _ _ _=>false
 |.cel _ _=>false
def z1P:List D->Bool
 |[]=>true
 |d::ds=>d.imm&&z1P ds
end
theorem Same.tup{K:aa}{H H':Hp}{a:Addr}{xs:List V}(e:Same H H')(h:SqT K H a xs):SqT K H' a xs:=by
 rcases h with (h | ⟨o,h⟩) | h
 ·exact .inl (.inl (e _ _ h))
 ·exact .inl (.inr ⟨o,e _ _ h⟩)
 ·exact .inr h
section
variable{K:aa}{H H':Hp}{B B':Addr->Prop}
structure KeepI(K:aa)(H H':Hp):Prop where
 st:∀a xs,SqT K H a xs->SqT K H' a xs
 sf:∀a xs,SqF K H a xs->SqF K H' a xs
structure Keep(K:aa)(B:Addr->Prop)(H H':Hp):Prop where
 sl:∀a xs,¬ B a->H a=some (.lst xs)->H' a=some (.lst xs)
 st:∀a xs,SqT K H a xs->SqT K H' a xs
 sf:∀a xs,SqF K H a xs->SqF K H' a xs
 sd:∀a kvs,¬ B a->H a=some (.dK kvs)->H' a=some (.dK kvs)
 sx:∀a φ,¬ B a->H a=some (.ext φ)->H' a=some (.ext φ)
 si:∀a C dx fs,¬ B a->H a=some (.ins C dx fs)->H' a=some (.ins C dx fs)
theorem Keep.i(k:Keep K B H H'):KeepI K H H':=⟨k.st,k.sf⟩
mutual
theorem Rep.keep(k:Keep K B H H'):∀(d:D) {v:V},Rep K H B d v->Rep K H' B d v
 |.non,_,h=>h
 |.bl _,_,h=>h
 |.int _,_,h=>h
 |.str _,_,h=>h
 |.lst ds,_,h=>by
  unfold Rep at h ⊢
  obtain⟨a,xs,e,n,s,r⟩:=h
  exact⟨a,xs,e,n,k.sl a xs n s,Reps.keep k ds r⟩
 |.tup ds,_,h=>by
  unfold Rep at h ⊢
  obtain⟨a,xs,e,s,r⟩:=h
  exact⟨a,xs,e,k.st a xs s,Reps.keep k ds r⟩
 |.scr ns,_,h=>by
  unfold Rep at h ⊢
  obtain⟨a,e,s⟩:=h
  exact⟨a,e,k.sf a _ s⟩
 |.dct ks ds,_,h=>by
  unfold Rep at h ⊢
  obtain⟨a,kvs,e,n,s,q,r⟩:=h
  exact⟨a,kvs,e,n,k.sd a kvs n s,q,Reps.keep k ds r⟩
 |.exc _,_,h=>by
  unfold Rep at h ⊢
  obtain⟨a,C,e,n,s,r⟩:=h
  exact⟨a,C,e,n,k.sx a _ n s,r⟩
 |.obj x a ks ds,_,h=>by
  unfold Rep at h ⊢
  obtain⟨C,dx,fs,n,s,q,r1⟩:=h
  exact⟨C,dx,fs,n,k.si a C dx fs n s,q,Reps.keep k ds r1⟩
 |.cel a ds,_,h=>by
  unfold Rep at h ⊢
  obtain⟨xs,n,s,e,r⟩:=h
  exact⟨xs,n,k.sl a xs n s,e,Reps.keep k ds r⟩
theorem Reps.keep(k:Keep K B H H'):∀(ds:List D) {xs:List V},Reps K H B ds xs->Reps K H' B ds xs
 |[],_,h=>h
 |d::ds,_,h=>by
  unfold Reps at h ⊢
  obtain⟨x,r,e,h1,h2⟩:=h
  exact⟨x,r,e,Rep.keep k d h1,Reps.keep k ds h2⟩
end
mutual
theorem Rep.anti(hb:∀a,B' a->B a):∀(d:D) {v:V},Rep K H B d v->Rep K H B' d v
 |.non,_,h=>h
 |.bl _,_,h=>h
 |.int _,_,h=>h
 |.str _,_,h=>h
 |.lst ds,_,h=>by
  unfold Rep at h ⊢
  obtain⟨a,xs,e,n,s,r⟩:=h
  exact⟨a,xs,e,fun z=>n (hb a z),s,Reps.anti hb ds r⟩
 |.tup ds,_,h=>by
  unfold Rep at h ⊢
  obtain⟨a,xs,e,s,r⟩:=h
  exact⟨a,xs,e,s,Reps.anti hb ds r⟩
 |.scr _,_,h=>h
 |.dct ks ds,_,h=>by
  unfold Rep at h ⊢
  obtain⟨a,kvs,e,n,s,q,r⟩:=h
  exact⟨a,kvs,e,fun z=>n (hb a z),s,q,Reps.anti hb ds r⟩
 |.exc _,_,h=>by
  unfold Rep at h ⊢
  obtain⟨a,C,e,n,r⟩:=h
  exact⟨a,C,e,fun z=>n (hb a z),r⟩
 |.obj x a ks ds,_,h=>by
  unfold Rep at h ⊢
  obtain⟨C,dx,fs,n,s,q,r1⟩:=h
  exact⟨C,dx,fs,fun z=>n (hb a z),s,q,Reps.anti hb ds r1⟩
 |.cel a ds,_,h=>by
  unfold Rep at h ⊢
  obtain⟨xs,n,s,e,r⟩:=h
  exact⟨xs,fun z=>n (hb a z),s,e,Reps.anti hb ds r⟩
theorem Reps.anti(hb:∀a,B' a->B a):∀(ds:List D) {xs:List V},Reps K H B ds xs->Reps K H B' ds xs
 |[],_,h=>h
 |d::ds,_,h=>by
  unfold Reps at h ⊢
  obtain⟨x,r,e,h1,h2⟩:=h
  exact⟨x,r,e,Rep.anti hb d h1,Reps.anti hb ds h2⟩
end
mutual
theorem Rep.imm:∀(d:D) {v:V},d.imm=true->Rep K H B d v->Rep K H B' d v
 |.non,_,_,h=>h
 |.bl _,_,_,h=>h
 |.int _,_,_,h=>h
 |.str _,_,_,h=>h
 |.lst _,_,i,_=>by unfold D.imm at i;cases i
 |.dct _ _,_,i,_=>by unfold D.imm at i;cases i
 |.exc _,_,i,_=>by unfold D.imm at i;cases i
 |.obj _ _ _ _,_,i,_=>by unfold D.imm at i;cases i
 |.cel _ _,_,i,_=>by unfold D.imm at i;cases i
 |.tup ds,_,i,h=>by
  unfold D.imm at i
  unfold Rep at h ⊢
  obtain⟨a,xs,e,s,r⟩:=h
  exact⟨a,xs,e,s,Reps.imm ds i r⟩
 |.scr _,_,_,h=>h
theorem Reps.imm:∀(ds:List D) {xs:List V},z1P ds=true->Reps K H B ds xs->Reps K H B' ds xs
 |[],_,_,h=>h
 |d::ds,_,i,h=>by
  unfold z1P at i
  rw [aH]at i
  unfold Reps at h ⊢
  obtain⟨x,r,e,h1,h2⟩:=h
  exact⟨x,r,e,Rep.imm d i.1 h1,Reps.imm ds i.2 h2⟩
end
mutual
theorem Rep.immTree:∀(d:D) {v:V},d.imm=true->Rep K H B d v->Tree K H d v []
 |.non,_,_,h=>⟨h,rfl⟩
 |.bl _,_,_,h=>⟨h,rfl⟩
 |.int _,_,_,h=>⟨h,rfl⟩
 |.str _,_,_,h=>⟨h,rfl⟩
 |.lst _,_,i,_=>by unfold D.imm at i;cases i
 |.dct _ _,_,i,_=>by unfold D.imm at i;cases i
 |.exc _,_,i,_=>by unfold D.imm at i;cases i
 |.obj _ _ _ _,_,i,_=>by unfold D.imm at i;cases i
 |.cel _ _,_,i,_=>by unfold D.imm at i;cases i
 |.tup ds,_,i,h=>by
  unfold D.imm at i
  unfold Rep at h
  unfold Tree
  obtain⟨a,xs,e,s,r⟩:=h
  exact⟨a,xs,e,s,Reps.immTree ds i r⟩
 |.scr _,_,_,h=>⟨h,rfl⟩
theorem Reps.immTree:∀(ds:List D) {xs:List V},z1P ds=true->Reps K H B ds xs->Trees K H ds xs []
 |[],_,_,h=>⟨h,rfl⟩
 |d::ds,_,i,h=>by
  unfold z1P at i
  rw [aH]at i
  unfold Reps at h
  unfold Trees
  obtain⟨x,r,e,h1,h2⟩:=h
  exact⟨x,r,[],[],e,Rep.immTree d i.1 h1,Reps.immTree ds i.2 h2,rfl⟩
end
mutual
theorem Tree.rep:∀(d:D) {v:V} {A:List Addr},Tree K H d v A->(∀a∈A,¬ B a)->Rep K H B d v
 |.non,_,_,h,_=>h.1
 |.bl _,_,_,h,_=>h.1
 |.int _,_,_,h,_=>h.1
 |.str _,_,_,h,_=>h.1
 |.lst ds,_,_,h,n=>by
  unfold Tree at h
  unfold Rep
  obtain⟨a,xs,C,e,s,r,rfl⟩:=h
  exact⟨a,xs,e,n a ah,s,Trees.rep ds r fun b hb=>n b (ag _ hb)⟩
 |.tup ds,_,_,h,n=>by
  unfold Tree at h
  unfold Rep
  obtain⟨a,xs,e,s,r⟩:=h
  exact⟨a,xs,e,s,Trees.rep ds r n⟩
 |.scr _,_,_,h,_=>h.1
 |.dct ks ds,_,_,h,n=>by
  unfold Tree at h
  unfold Rep
  obtain⟨a,kvs,C,e,s,q,r,rfl⟩:=h
  exact⟨a,kvs,e,n a ah,s,q,Trees.rep ds r fun b hb=>n b (ag _ hb)⟩
 |.exc _,_,_,h,n=>by
  unfold Tree at h
  unfold Rep
  obtain⟨a,C,e,s,r1,r2,rfl⟩:=h
  exact⟨a,C,e,n a ah,s,r1,r2⟩
 |.obj x a ks ds,_,_,h,n=>by
  unfold Tree at h
  unfold Rep
  obtain⟨C,dx,fs,A1,s,q,r1,rfl⟩:=h
  exact⟨C,dx,fs,n a ah,s,q,Trees.rep ds r1 fun b hb=>n b (ag _ hb)⟩
 |.cel a ds,_,_,h,n=>by
  unfold Tree at h
  unfold Rep
  obtain⟨xs,C,s,e,r,rfl⟩:=h
  exact⟨xs,n a ah,s,e,Trees.rep ds r fun b hb=>n b (ag _ hb)⟩
theorem Trees.rep:∀(ds:List D) {xs:List V} {A:List Addr},Trees K H ds xs A->(∀a∈A,¬ B a)->Reps K H B ds xs
 |[],_,_,h,_=>h.1
 |d::ds,_,_,h,n=>by
  unfold Trees at h
  unfold Reps
  obtain⟨x,r,C,C',e,h1,h2,rfl⟩:=h
  exact⟨x,r,e,Tree.rep d h1 fun b hb=>n b (cM _ hb),Trees.rep ds h2 fun b hb=>n b (aT _ hb)⟩
end
mutual
theorem Tree.keep(kt:KeepI K H H'):∀(d:D) {v:V} {A:List Addr},Tree K H d v A->(∀a∈A,∀o,H a=some o->H' a=some o)->Tree K H' d v A
 |.non,_,_,h,_=>h
 |.bl _,_,_,h,_=>h
 |.int _,_,_,h,_=>h
 |.str _,_,_,h,_=>h
 |.lst ds,_,_,h,n=>by
  unfold Tree at h ⊢
  obtain⟨a,xs,C,e,s,r,rfl⟩:=h
  exact⟨a,xs,C,e,n a ah _ s,Trees.keep kt ds r fun b hb=>n b (ag _ hb),rfl⟩
 |.tup ds,_,_,h,n=>by
  unfold Tree at h ⊢
  obtain⟨a,xs,e,s,r⟩:=h
  exact⟨a,xs,e,kt.st a xs s,Trees.keep kt ds r n⟩
 |.scr _,_,_,h,_=>by
  unfold Tree at h ⊢
  obtain⟨⟨a,e,s⟩,q⟩:=h
  exact⟨⟨a,e,kt.sf a _ s⟩,q⟩
 |.dct ks ds,_,_,h,n=>by
  unfold Tree at h ⊢
  obtain⟨a,kvs,C,e,s,q,r,rfl⟩:=h
  exact⟨a,kvs,C,e,n a ah _ s,q,Trees.keep kt ds r fun b hb=>n b (ag _ hb),rfl⟩
 |.exc _,_,_,h,n=>by
  unfold Tree at h ⊢
  obtain⟨a,C,e,s,r1,r2,rfl⟩:=h
  exact⟨a,C,e,n a ah _ s,r1,r2,rfl⟩
 |.obj x a ks ds,_,_,h,n=>by
  unfold Tree at h ⊢
  obtain⟨C,dx,fs,A1,s,q,r1,rfl⟩:=h
  exact⟨C,dx,fs,A1,n a ah _ s,q,Trees.keep kt ds r1 fun b hb=>n b (ag _ hb),rfl⟩
 |.cel a ds,_,_,h,n=>by
  unfold Tree at h ⊢
  obtain⟨xs,C,s,e,r,rfl⟩:=h
  exact⟨xs,C,n a ah _ s,e,Trees.keep kt ds r fun b hb=>n b (ag _ hb),rfl⟩
theorem Trees.keep(kt:KeepI K H H'):∀(ds:List D) {xs:List V} {A:List Addr},Trees K H ds xs A->(∀a∈A,∀o,H a=some o->H' a=some o)->Trees K H' ds xs A
 |[],_,_,h,_=>h
 |d::ds,_,_,h,n=>by
  unfold Trees at h ⊢
  obtain⟨x,r,C,C',e,h1,h2,rfl⟩:=h
  exact⟨x,r,C,C',e,Tree.keep kt d h1 fun b hb=>n b (cM _ hb),Trees.keep kt ds h2 fun b hb=>n b (aT _ hb),rfl⟩
end
mutual
theorem Tree.held:∀(d:D) {v:V} {A:List Addr},Tree K H d v A->∀a∈A,∃o,H a=some o∧Mut (some o)
 |.non,_,_,h,a,ha=>by rw [h.2]at ha;cases ha
 |.bl _,_,_,h,a,ha=>by rw [h.2]at ha;cases ha
 |.int _,_,_,h,a,ha=>by rw [h.2]at ha;cases ha
 |.str _,_,_,h,a,ha=>by rw [h.2]at ha;cases ha
 |.lst ds,_,_,h,b,hb=>by
  unfold Tree at h
  obtain⟨a,xs,C,e,s,r,rfl⟩:=h
  rcases ai.mp hb with z | z
  ·subst z;exact⟨_,s,trivial⟩
  ·exact Trees.held ds r b z
 |.tup ds,_,_,h,b,hb=>by
  unfold Tree at h
  obtain⟨a,xs,e,s,r⟩:=h
  exact Trees.held ds r b hb
 |.scr _,_,_,h,a,ha=>by rw [h.2]at ha;cases ha
 |.dct ks ds,_,_,h,b,hb=>by
  unfold Tree at h
  obtain⟨a,kvs,C,e,s,q,r,rfl⟩:=h
  rcases ai.mp hb with z | z
  ·subst z;exact⟨_,s,trivial⟩
  ·exact Trees.held ds r b z
 |.exc _,_,_,h,b,hb=>by
  unfold Tree at h
  obtain⟨a,C,e,s,r1,r2,rfl⟩:=h
  rw [ax.mp hb]
  exact⟨_,s,trivial⟩
 |.obj x a ks ds,_,_,h,b,hb=>by
  unfold Tree at h
  obtain⟨C,dx,fs,A1,s,q,r1,rfl⟩:=h
  rcases ai.mp hb with z | z
  ·subst z;exact⟨_,s,trivial⟩
  ·exact Trees.held ds r1 b z
 |.cel a ds,_,_,h,b,hb=>by
  unfold Tree at h
  obtain⟨xs,C,s,e,r,rfl⟩:=h
  rcases ai.mp hb with z | z
  ·subst z;exact⟨_,s,trivial⟩
  ·exact Trees.held ds r b z
theorem Trees.held:∀(ds:List D) {xs:List V} {A:List Addr},Trees K H ds xs A->∀a∈A,∃o,H a=some o∧Mut (some o)
 |[],_,_,h,a,ha=>by rw [h.2]at ha;cases ha
 |d::ds,_,_,h,b,hb=>by
  unfold Trees at h
  obtain⟨x,r,C,C',e,h1,h2,rfl⟩:=h
  rcases ay.mp hb with z | z
  ·exact Tree.held d h1 b z
  ·exact Trees.held ds h2 b z
end
theorem Same.sf(e:Same H H'){a:Addr}{xs:List V}(h:SqF K H a xs):SqF K H' a xs:=h.elim (fun⟨o,z⟩=>.inl ⟨o,e _ _ z⟩) .inr
theorem Keep.same(e:Same H H'):Keep K B H H':=⟨fun _ _ _ h=>e _ _ h,fun _ _ h=>e.tup h,fun _ _ h=>e.sf h,fun _ _ _ h=>e _ _ h,fun _ _ _ h=>e _ _ h,fun _ _ _ _ _ h=>e _ _ h⟩
theorem KeepI.same(e:Same H H'):KeepI K H H':=⟨fun _ _ h=>e.tup h,fun _ _ h=>e.sf h⟩
theorem Rep.mono{d:D}{v:V}(h:Rep K H B d v)(e:Same H H'):Rep K H' B d v:=Rep.keep (.same e) d h
theorem Reps.mono{ds:List D}{xs:List V}(h:Reps K H B ds xs)(e:Same H H'):Reps K H' B ds xs:=Reps.keep (.same e) ds h
theorem Tree.mono{d:D}{v:V}{A:List Addr}(h:Tree K H d v A)(e:Same H H'):Tree K H' d v A:=Tree.keep (.same e) d h fun a _ o z=>e a o z
theorem Trees.mono{ds:List D}{v:List V}{A:List Addr}(h:Trees K H ds v A)(e:Same H H'):Trees K H' ds v A:=Trees.keep (.same e) ds h fun a _ o z=>e a o z
mutual
theorem Rep.wide{C:Addr->Prop}(hc:∀a,C a->H a=none):∀(d:D) {v:V},Rep K H B d v->Rep K H (fun a=>B a∨C a) d v
 |.non,_,h=>h
 |.bl _,_,h=>h
 |.int _,_,h=>h
 |.str _,_,h=>h
 |.lst ds,_,h=>by
  unfold Rep at h ⊢
  obtain⟨a,xs,e,n,s,r⟩:=h
  refine⟨a,xs,e,fun z=>z.elim n fun z=>?_,s,Reps.wide hc ds r⟩
  rw [hc a z]at s;cases s
 |.tup ds,_,h=>by
  unfold Rep at h ⊢
  obtain⟨a,xs,e,s,r⟩:=h
  exact⟨a,xs,e,s,Reps.wide hc ds r⟩
 |.scr _,_,h=>h
 |.dct ks ds,_,h=>by
  unfold Rep at h ⊢
  obtain⟨a,kvs,e,n,s,q,r⟩:=h
  refine⟨a,kvs,e,fun z=>z.elim n fun z=>?_,s,q,Reps.wide hc ds r⟩
  rw [hc a z]at s;cases s
 |.exc _,_,h=>by
  unfold Rep at h ⊢
  obtain⟨a,C,e,n,s,r⟩:=h
  refine⟨a,C,e,fun z=>z.elim n fun z=>?_,s,r⟩
  rw [hc a z]at s;cases s
 |.obj x a ks ds,_,h=>by
  unfold Rep at h ⊢
  obtain⟨C',dx,fs,n,s,q,r1⟩:=h
  refine⟨C',dx,fs,fun z=>z.elim n fun z=>?_,s,q,Reps.wide hc ds r1⟩
  rw [hc a z]at s;cases s
 |.cel a ds,_,h=>by
  unfold Rep at h ⊢
  obtain⟨xs,n,s,e,r⟩:=h
  refine⟨xs,fun z=>z.elim n fun z=>?_,s,e,Reps.wide hc ds r⟩
  rw [hc a z]at s;cases s
theorem Reps.wide{C:Addr->Prop}(hc:∀a,C a->H a=none):∀(ds:List D) {xs:List V},Reps K H B ds xs->Reps K H (fun a=>B a∨C a) ds xs
 |[],_,h=>h
 |d::ds,_,h=>by
  unfold Reps at h ⊢
  obtain⟨x,r,e,h1,h2⟩:=h
  exact⟨x,r,e,Rep.wide hc d h1,Reps.wide hc ds h2⟩
end
theorem Keep.upd{a:Addr}{o:HO}(hb:B a)(mu:Mut (H a)):Keep K B H (upd H a o):=by
 refine⟨fun b xs n h=>?_,fun b xs h=>?_,fun b xs h=>?_,fun b kvs n h=>?_,fun b φ n h=>?_,fun b C dx fs n h=>?_⟩
 ·have ne:b≠a:=fun z=>n (z ▸ hb)
  rw [z0q ne];exact h
 ·rcases h with (h | ⟨u,h⟩) | h
  ·have ne:b≠a:=fun z=>by subst z;rw [h]at mu;exact mu
   exact .inl (.inl (by rw [z0q ne];exact h))
  ·have ne:b≠a:=fun z=>by subst z;rw [h]at mu;exact mu
   exact .inl (.inr ⟨u,by rw [z0q ne];exact h⟩)
  ·exact .inr h
 ·rcases h with⟨u,h⟩ | h
  ·have ne:b≠a:=fun z=>by subst z;rw [h]at mu;exact mu
   exact .inl ⟨u,by rw [z0q ne];exact h⟩
  ·exact .inr h
 ·have ne:b≠a:=fun z=>n (z ▸ hb)
  rw [z0q ne];exact h
 ·have ne:b≠a:=fun z=>n (z ▸ hb)
  rw [z0q ne];exact h
 ·have ne:b≠a:=fun z=>n (z ▸ hb)
  rw [z0q ne];exact h
theorem z0n{a:Addr}{o:HO}(h:H a=none):Same H (upd H a o):=fun b u e=>by rw [z0q (z1e e h)];exact e
theorem Reps.length:∀{ds:List D} {xs:List V},Reps K H B ds xs->ds.length=xs.length
 |[],_,h=>by unfold Reps at h;subst h;rfl
 |d::ds,_,h=>by
  unfold Reps at h
  obtain⟨x,r,rfl,_,h2⟩:=h
  simp [Reps.length h2]
theorem Reps.get:∀{ds:List D} {xs:List V} {i:Nat} {d:D},Reps K H B ds xs->ds[i]? = some d->∃x,xs[i]? = some x∧Rep K H B d x
 |[],_,_,_,_,e=>by simp at e
 |d::ds,_,i,d',h,e=>by
  unfold Reps at h
  obtain⟨x,r,rfl,h1,h2⟩:=h
  cases i with
  |zero=>simp at e;subst e;exact⟨x,rfl,h1⟩
  |succ i=>simpa using Reps.get (i:=i) h2 (by simpa using e)
theorem Reps.get':∀{ds:List D} {xs:List V} {i:Nat} {x:V},Reps K H B ds xs->xs[i]? = some x->∃d,ds[i]? = some d∧Rep K H B d x
 |[],_,_,_,h,e=>by unfold Reps at h;subst h;simp at e
 |d::ds,_,i,x',h,e=>by
  unfold Reps at h
  obtain⟨x,r,rfl,h1,h2⟩:=h
  cases i with
  |zero=>simp at e;subst e;exact⟨d,rfl,h1⟩
  |succ i=>simpa using Reps.get' (i:=i) h2 (by simpa using e)
theorem Reps.append:∀{ds es:List D} {xs ys:List V},Reps K H B ds xs->Reps K H B es ys->Reps K H B (ds++es) (xs++ys)
 |[],_,_,_,h,h'=>by unfold Reps at h;subst h;exact h'
 |d::ds,es,_,ys,h,h'=>by
  unfold Reps at h
  obtain⟨x,r,rfl,h1,h2⟩:=h
  exact(show Reps K H B (d::(ds++es)) (x::(r++ys)) by unfold Reps;exact⟨x,r++ys,rfl,h1,Reps.append h2 h'⟩)
theorem Reps.one{d:D}{x:V}(h:Rep K H B d x):Reps K H B [d] [x]:=by unfold Reps;exact⟨x,[],rfl,h,by unfold Reps;rfl⟩
theorem Reps.nil:Reps K H B [] []:=by unfold Reps;rfl
theorem Reps.cons{d:D}{x:V}{ds:List D}{xs:List V}(h:Rep K H B d x)(h':Reps K H B ds xs):Reps K H B (d::ds) (x::xs):=by unfold Reps;exact⟨x,xs,rfl,h,h'⟩
theorem Reps.snoc{d:D}{x:V}{ds:List D}{xs:List V}(h':Reps K H B ds xs)(h:Rep K H B d x):Reps K H B (ds++[d]) (xs++[x]):=h'.append (.one h)
theorem Trees.nil:Trees K H [] [] []:=⟨rfl,rfl⟩
theorem Trees.snoc:∀{ds:List D} {xs:List V} {A C:List Addr} {d:D} {x:V},Trees K H ds xs A->Tree K H d x C->Trees K H (ds++[d]) (xs++[x]) (A++C)
 |[],_,_,C,d,x,h,h'=>by
  obtain⟨rfl,rfl⟩:=h
  exact(show Trees K H [d] [x] C by unfold Trees;exact⟨x,[],C,[],rfl,h',⟨rfl,rfl⟩,(aP _).symm⟩)
 |e::ds,_,_,C,d,x,h,h'=>by
  unfold Trees at h
  obtain⟨y,r,A1,A2,rfl,h1,h2,rfl⟩:=h
  exact(show Trees K H (e::(ds++[d])) (y::(r++[x])) (A1++A2++C) by unfold Trees;exact⟨y,_,A1,A2++C,rfl,h1,Trees.snoc h2 h',aZ _ _ _⟩)
end
end L2
namespace L2
open PySem PySem.Spec PyProof.Rows
abbrev DS:=List (Option D)
abbrev DE:=DS->Option D
structure RepS(K:aa)(H:Hp)(B:Addr->Prop)(σ:St)(δ:DS):Prop where
 len:δ.length=σ.length
 get:∀(i:Nat) (d:D),δ[i]? = some (some d)->∃v,σ[i]? = some (some v)∧Rep K H B d v
def InB(B:Addr->Prop)(H:Hp):Prop:=∀a,B a->∃o,H a=some o
def noB:Addr->Prop:=fun _=>False
theorem InB.mono{B:Addr->Prop}{H H':Hp}(h:InB B H)(e:Same H H'):InB B H':=fun a b=>let⟨o,q⟩:=h a b;⟨o,e a o q⟩
theorem InB.no{H:Hp}:InB noB H:=fun _ b=>b.elim
theorem InB.fresh{B:Addr->Prop}{H:Hp}(h:InB B H){a:Addr}(e:H a=none):¬ B a:=fun b=>by
 obtain⟨o,q⟩:=h a b
 rw [e]at q;cases q
theorem RepS.mono{K:aa}{H H':Hp}{B:Addr->Prop}{σ:St}{δ:DS}(h:RepS K H B σ δ)(e:Same H H'):RepS K H' B σ δ:=
 ⟨h.len,fun i d q=>let⟨v,a,r⟩:=h.get i d q;⟨v,a,r.mono e⟩⟩
theorem RepS.anti{K:aa}{H:Hp}{B B':Addr->Prop}{σ:St}{δ:DS}(h:RepS K H B σ δ)(e:∀a,B' a->B a):RepS K H B' σ δ:=
 ⟨h.len,fun i d q=>let⟨v,a,r⟩:=h.get i d q;⟨v,a,r.anti e⟩⟩
def tD(K:aa)(f:DE):TE:=fun σ H Q=>∃B δ d,InB B H∧RepS K H B σ δ∧f δ=some d∧∀v H',Same H H'->Rep K H' B d v->Q v H'
def tF(K:aa)(f:DS->Option (List D)):TE:=fun σ H Q=>∃B δ ds,InB B H∧RepS K H B σ δ∧f δ=some ds ∧
 ∀a xs H',Same H H'->H a=none->H' a=some (.lst xs)->Reps K H' B ds xs->Q (.ref a) H'
def tN(K:aa)(f:DE):TE:=fun σ H Q=>∃δ d,RepS K H noB σ δ∧f δ=some d∧∀v H' A,Same H H'->Tree K H' d v A->A.Nodup->(∀a∈A,H a=none)->Q v H'
def tT(K:aa)(f:DS->Option Bool):TT:=fun σ H Q=>∃B δ b,InB B H∧RepS K H B σ δ∧f δ=some b∧∀H',Same H H'->Q b H'
def tDs(K:aa)(f:DS->Option (List D)):TA:=fun σ H Q=>∃B δ ds,InB B H∧RepS K H B σ δ∧f δ=some ds∧∀vs H',Same H H'->Reps K H' B ds vs->Q vs H'
abbrev PD(X:Cx)(e:Expr)(f:DE):Prop:=PE X e (tD X.K f)
abbrev PF(X:Cx)(e:Expr)(f:DS->Option (List D)):Prop:=PE X e (tF X.K f)
abbrev PN(X:Cx)(e:Expr)(f:DE):Prop:=PE X e (tN X.K f)
abbrev PTD(X:Cx)(e:Expr)(f:DS->Option Bool):Prop:=PT X e (tT X.K f)
abbrev PWD(X:Cx)(e:Expr)(f:DS->Option Bool):Prop:=PW X e (tT X.K f)
section
variable{X:Cx}{e a b c:Expr}{es:List Expr}{pos:Pos}
theorem PE.imp{t t':TE}(h:PE X e t)(w:∀σ H Q,t' σ H Q->t σ H Q):PE X e t':=fun pins s σ H Q I q=>h pins s σ H Q I (w σ H Q q)
theorem PT.imp{t t':TT}(h:PT X e t)(w:∀σ H Q,t' σ H Q->t σ H Q):PT X e t':=fun pins s σ H Q I q=>h pins s σ H Q I (w σ H Q q)
theorem PW.imp{t t':TT}(h:PW X e t)(w:∀σ H Q,t' σ H Q->t σ H Q):PW X e t':=fun wh pins s σ H Q I q=>h wh pins s σ H Q I (w σ H Q q)
theorem PA.imp{t t':TA}(h:PA X es t)(w:∀σ H Q,t' σ H Q->t σ H Q):PA X es t':=fun po pins s σ H Q I q=>h po pins s σ H Q I (w σ H Q q)
def mkL(f:DS->Option (List D)):DE:=fun δ=>(f δ).map .lst
def z0w(f:DS->Option (List D)):DE:=fun δ=>(f δ).bind fun ds=>if z1P ds=true then some (.lst ds)else none
theorem iDF{K:aa}{f:DS->Option (List D)}:∀σ H Q,tD K (mkL f) σ H Q->tF K f σ H Q:=fun σ H Q ⟨B,δ,d,hB,S,q,k⟩=>by
 unfold mkL at q
 cases r:f δ with
 |none=>rw [r]at q;cases q
 |some ds=>
  rw [r]at q
  cases q
  exact⟨B,δ,ds,hB,S,r,fun a xs H' s hn ha hr=>k _ H' s (by unfold Rep;exact⟨a,xs,rfl,hB.fresh hn,ha,hr⟩)⟩
theorem iDN{K:aa}{f:DE}:∀σ H Q,tD K f σ H Q->tN K f σ H Q:=fun σ H Q ⟨B,δ,d,hB,S,q,k⟩=>
 ⟨δ,d,S.anti (fun _ z=>z.elim),q,fun v H' A s t nd fr=>k v H' s (t.rep d fun a ha=>hB.fresh (fr a ha))⟩
theorem iNF{K:aa}{f:DS->Option (List D)}:∀σ H Q,tN K (z0w f) σ H Q->tF K f σ H Q:=fun σ H Q ⟨δ,d,S,q,k⟩=>by
 unfold z0w at q
 cases r:f δ with
 |none=>rw [r]at q;cases q
 |some ds=>
  rw [r]at q
  have q':(if z1P ds=true then some (D.lst ds)else none)=some d:=q
  split at q'
  ·rename_i hi
   cases q'
   refine⟨noB,δ,ds,.no,S,r,fun a xs H' s hn ha hr=>k (.ref a) H' [a] s ?_ (av.mpr ⟨(fun z=>nomatch z),bi⟩) (fun b hb=>by rw [ax.mp hb];exact hn)⟩
   unfold Tree
   exact⟨a,xs,[],rfl,ha,hr.immTree ds hi,rfl⟩
  ·cases q'
theorem y2n{f:DS->Option (List D)}(h:PF X e f):PD X e (mkL f):=h.imp iDF
theorem z1M{f:DE}(h:PN X e f):PD X e f:=h.imp iDN
theorem z5f{f:DS->Option (List D)}(h:PF X e f):PN X e (z0w f):=h.imp iNF
def z0d(i:Nat):DE:=fun δ=>(δ[i]?).bind id
def dC(d:D):DE:=fun _=>some d
theorem z0g(i:Nat){x:Str}{p:Pos}(h:PE X (.Name x p) (y1u i)):PD X (.Name x p) (z0d i):=h.imp fun σ H Q ⟨B,δ,d,hB,S,q,k⟩=>by
 unfold z0d at q
 cases r:δ[i]? with
 |none=>rw [r]at q;cases q
 |some o=>
  rw [r]at q
  have q':o=some d:=q
  subst q'
  obtain⟨v,e,rv⟩:=S.get i d r
  exact⟨v,e,k v H (.refl H) rv⟩
theorem pd_C{d:D}{v:V}(h:PE X e (tC v))(r:∀K H B,Rep K H B d v):PD X e (dC d):=h.imp fun σ H Q ⟨B,δ,d',hB,S,q,k⟩=>by
 cases q
 exact k v H (.refl H) (r _ _ _)
theorem z0k{i j p}:PD X (.Constant (.int i) j p) (dC (.int i)):=pd_C pe_int fun _ _ _=>rfl
theorem z7O{i j p}:PD X (.Constant (.bool i) j p) (dC (.bl i)):=pd_C pe_bl fun _ _ _=>rfl
theorem y5O{j p}:PD X (.Constant .none j p) (dC .non):=pd_C pe_non fun _ _ _=>rfl
theorem y7N{i j p}:PD X (.Constant (.str i) j p) (dC (.str i)):=pd_C pe_str fun _ _ _=>rfl
def d2(F:D->D->Option D)(f g:DE):DE:=fun δ=>(f δ).bind fun x=>(g δ).bind fun y=>F x y
theorem y9S{F:D->D->Option D}{f g:DE}{δ:DS}{d:D}(h:d2 F f g δ=some d):∃x y,f δ=some x∧g δ=some y∧F x y=some d:=by
 unfold d2 at h
 cases hx:f δ with
 |none=>rw [hx]at h;cases h
 |some x=>
  rw [hx]at h
  cases hy:g δ with
  |none=>
   have h':((g δ).bind fun y=>F x y)=some d:=h
   rw [hy]at h';cases h'
  |some y=>
   have h':((g δ).bind fun y=>F x y)=some d:=h
   rw [hy]at h'
   exact⟨x,y,rfl,rfl,h'⟩
def Op2(K:aa)(r:R2)(F:D->D->Option D):Prop:=∀(H:Hp) (B:Addr->Prop) (dx dy d:D) (x y:V) (Q:VK),InB B H->Rep K H B dx x->Rep K H B dy y->F dx dy=some d->(∀v H',Same H H'->Rep K H' B d v->Q v H')->r x y H Q
theorem y3K{r:R2}{F:D->D->Option D}{f g:DE}(ho:Op2 X.K r F)(σ:St)(H:Hp)(Q:VK)(h:tD X.K (d2 F f g) σ H Q):tOp r (tD X.K f) (tD X.K g) σ H Q:=by
 obtain⟨B,δ,d,hB,S,q,k⟩:=h
 obtain⟨dx,dy,e1,e2,e3⟩:=y9S q
 exact⟨B,δ,dx,hB,S,e1,fun v H1 s1 r1=>⟨B,δ,dy,hB.mono s1,S.mono s1,e2,fun u H2 s2 r2=>
  ho H2 B dx dy d v u Q ((hB.mono s1).mono s2) (r1.mono s2) r2 e3 fun z H' s' rz=>k z H' ((s1.trans s2).trans s') rz⟩⟩
theorem y1I{op:Operator}{r:R2}{F:D->D->Option D}{f g:DE}(ho:OpR X (binaryOp op) r)(hD:Op2 X.K r F)(ha:PD X a f)(hb:PD X b g):PD X (.BinOp a op b pos) (d2 F f g):=(pe_op ho ha hb).imp (y3K hD)
theorem x2Q{op:CmpOp}{r:R2}{F:D->D->Option D}{f g:DE}(ho:OpR X (compareOp op) r)(hD:Op2 X.K r F)(ha:PD X a f)(hb:PD X b g)(hm:behindInMarks op b=false):PD X (.Compare a [op] [b] pos) (d2 F f g):=(pe_cmpR ho ha hb hm).imp (y3K hD)
def z0M(f:DE):DS->Option Bool:=fun δ=>match f δ with
 |some (.bl b)=>some b
 |_=>none
theorem y5s{f:DE}{δ:DS}{b:Bool}(h:z0M f δ=some b):f δ=some (.bl b):=by
 unfold z0M at h
 split at h
 ·rename_i b' e
  cases h;exact e
 ·cases h
theorem test_of{t:TE}{f:DE}(h:∀σ H Q,tD X.K f σ H Q->t σ H Q)(σ:St)(H:Hp)(Q:Bool->Hp->Prop)(q:tT X.K (z0M f) σ H Q):tTest t σ H Q:=by
 obtain⟨B,δ,b,hB,S,q,k⟩:=q
 refine h σ H _ ⟨B,δ,.bl b,hB,S,y5s q,fun v H' s r=>?_⟩
 exact⟨b,r,k H' s⟩
theorem z5s{op:CmpOp}{r:R2}{F:D->D->Option D}{f g:DE}(ho:OpR X (compareOp op) r)(hD:Op2 X.K r F)(ha:PD X a f)(hb:PD X b g)(hm:behindInMarks op b=false):PTD X (.Compare a [op] [b] pos) (z0M (d2 F f g)):=(pt_cmpR ho ha hb hm).imp (test_of (y3K hD))
def z8h(F G:D->D->Option D)(f g h:DE):DE:=fun δ=>(f δ).bind fun x=>(g δ).bind fun y=>match F x y with
 |some (.bl true)=>(h δ).bind fun z=>G y z
 |some (.bl false)=>some (.bl false)
 |_=>none
theorem x1Z{r r':R2}{F G:D->D->Option D}{f g h:DE}(ho:Op2 X.K r F)(ho':Op2 X.K r' G)(σ:St)(H:Hp)(Q:VK)(q:tD X.K (z8h F G f g h) σ H Q):x2n r r' (tD X.K f) (tD X.K g) (tD X.K h) σ H Q:=by
 obtain⟨B,δ,d,hB,S,q,k⟩:=q
 unfold z8h at q
 cases e1:f δ with
 |none=>rw [e1]at q;cases q
 |some x=>
  rw [e1]at q
  cases e2:g δ with
  |none=>
   have q':((g δ).bind _)=some d:=q
   rw [e2]at q';cases q'
  |some y=>
   have q':((g δ).bind _)=some d:=q
   rw [e2]at q'
   have q2:(match F x y with | some (.bl true)=>(h δ).bind fun z=>G y z | some (.bl false)=>some (.bl false) | _=>none)=some d:=q'
   refine⟨B,δ,x,hB,S,e1,fun v H1 s1 r1=>⟨B,δ,y,hB.mono s1,S.mono s1,e2,fun u H2 s2 r2=>?_⟩⟩
   split at q2
   ·rename_i e3
    refine ho H2 B x y _ v u _ ((hB.mono s1).mono s2) (r1.mono s2) r2 e3 fun z H3 s3 r3=>⟨true,r3,?_⟩
    rw [if_pos rfl]
    cases e4:h δ with
    |none=>rw [e4]at q2;cases q2
    |some w=>
     rw [e4]at q2
     have q4:G y w=some d:=q2
     refine⟨B,δ,w,((hB.mono s1).mono s2).mono s3,((S.mono s1).mono s2).mono s3,e4,fun t H4 s4 r4=>?_⟩
     exact ho' H4 B y w d u t Q ((((hB.mono s1).mono s2).mono s3).mono s4) ((r2.mono s3).mono s4) r4 q4 fun z' H' s' rz=>k z' H' ((((s1.trans s2).trans s3).trans s4).trans s') rz
   ·rename_i e3
    cases q2
    refine ho H2 B x y _ v u _ ((hB.mono s1).mono s2) (r1.mono s2) r2 e3 fun z H3 s3 r3=>⟨false,r3,?_⟩
    rw [if_neg ar]
    exact k _ H3 ((s1.trans s2).trans s3) rfl
   ·cases q2
theorem x1r{op op':CmpOp}{r r':R2}{F G:D->D->Option D}{f g h:DE}(ho:OpR X (compareOp op) r)(ho':OpR X (compareOp op') r')(hF:Op2 X.K r F)(hG:Op2 X.K r' G)(ha:PD X a f)(hb:PD X b g)(hc:PD X c h)
  (hm:lastMarks [op,op'] [b,c]=false:=by with_unfolding_all rfl):PD X (.Compare a [op,op'] [b,c] pos) (z8h F G f g h):=(x1X ho ho' ha hb hc hm).imp (x1Z hF hG)
def iop(F:Int->Int->Option D):D->D->Option D
 |.int i,.int j=>F i j
 |_,_=>none
theorem z9q{F:Int->Int->Option D}{x y d:D}(h:iop F x y=some d):∃i j,x = .int i∧y = .int j∧F i j=some d:=by
 unfold iop at h
 split at h
 ·exact⟨_,_,rfl,rfl,h⟩
 ·cases h
theorem y0H{K:aa}{C:Int->Int->Prop}[∀i j,Decidable (C i j)]{g:Int->Int->Int}:Op2 K (rI C fun i j=>.int (g i j)) (iop fun i j=>if C i j then some (.int (g i j))else none):=by
 intro H B dx dy d x y Q hB hx hy q k
 obtain⟨i,j,rfl,rfl,q2⟩:=z9q q
 by_cases hc:C i j
 ·rw [if_pos hc]at q2
  cases q2
  exact⟨i,j,hx,hy,hc,k _ H (.refl H) rfl⟩
 ·rw [if_neg hc]at q2
  cases q2
theorem y7Y{K:aa}{g:Int->Int->Int}:Op2 K (rI0 fun i j=>.int (g i j)) (iop fun i j=>some (.int (g i j))):=by
 intro H B dx dy d x y Q hB hx hy q k
 obtain⟨i,j,rfl,rfl,q2⟩:=z9q q
 cases q2
 exact⟨i,j,hx,hy,k _ H (.refl H) rfl⟩
theorem z4X{K:aa}{g:Int->Int->Bool}:Op2 K (rI0 fun i j=>.bl (g i j)) (iop fun i j=>some (.bl (g i j))):=by
 intro H B dx dy d x y Q hB hx hy q k
 obtain⟨i,j,rfl,rfl,q2⟩:=z9q q
 cases q2
 exact⟨i,j,hx,hy,k _ H (.refl H) rfl⟩
def d1(F:D->Option D)(f:DE):DE:=fun δ=>(f δ).bind F
theorem y7H{F:D->Option D}{f:DE}{δ:DS}{d:D}(h:d1 F f δ=some d):∃x,f δ=some x∧F x=some d:=by
 unfold d1 at h
 cases hx:f δ with
 |none=>rw [hx]at h;cases h
 |some x=>rw [hx]at h;exact⟨x,rfl,h⟩
def uNeg:D->Option D
 |.int i=>some (.int (-i))
 |_=>none
theorem y3z{f:DE}(h:PD X a f):PD X (.UnaryOp .USub a pos) (d1 uNeg f):=(pe_un un_neg h).imp fun σ H Q ⟨B,δ,d,hB,S,q,k⟩=>by
 obtain⟨x,e1,e2⟩:=y7H q
 refine⟨B,δ,x,hB,S,e1,fun v H' s r=>?_⟩
 unfold uNeg at e2
 split at e2
 ·cases e2
  exact⟨_,r,k _ H' s rfl⟩
 ·cases e2
def y0e:D->Option Bool
 |.non=>some false
 |.bl b=>some b
 |.int i=>some (i != 0)
 |.str x=>if x.length≤sizeLine then some ((x.length:Int) != 0)else none
 |.lst ds=>some (!ds.isEmpty)
 |.tup ds=>some (!ds.isEmpty)
 |.scr ns=>some (!ns.isEmpty)
 |.dct ks _=>some (!ks.isEmpty)
 |.exc _=>none
 |.obj _ _ _ _=>none
 |.cel _ _=>none
def z1r(f:DE):DS->Option Bool:=fun δ=>(f δ).bind y0e
theorem y3A{K:aa}{H:Hp}{B:Addr->Prop}{ds:List D}{xs:List V}(h:Reps K H B ds xs):(!ds.isEmpty) = !xs.isEmpty:=by
 have:=h.length
 cases ds <;> cases xs <;> simp_all
theorem y8Q{K:aa}{H:Hp}{B:Addr->Prop}{d:D}{v:V}{k:Bool}(h:Rep K H B d v)(e:y0e d=some k):TruV K v H k:=by
 cases d with
 |non=>cases h;cases e;rfl
 |bl b=>cases h;cases e;rfl
 |int i=>cases h;cases e;rfl
 |str x=>
  cases h
  have e':(if x.length≤sizeLine then some ((x.length:Int) != 0)else none)=some k:=e
  by_cases hl:x.length≤sizeLine
  ·rw [if_pos hl]at e'
   cases e'
   exact⟨hl,rfl⟩
  ·rw [if_neg hl]at e'
   cases e'
 |lst ds=>
  unfold Rep at h
  obtain⟨a,xs,rfl,_,s,r⟩:=h
  cases e
  exact .inl ⟨xs,SqL.of s,y3A r⟩
 |tup ds=>
  unfold Rep at h
  obtain⟨a,xs,rfl,s,r⟩:=h
  cases e
  exact .inr (.inl ⟨xs,s,y3A r⟩)
 |scr ns=>
  unfold Rep at h
  obtain⟨a,rfl,s⟩:=h
  cases e
  exact .inl ⟨_,s.sq,by cases ns <;> rfl⟩
 |dct ks ds=>
  unfold Rep at h
  obtain⟨a,kvs,rfl,_,s,q,r⟩:=h
  cases e
  refine .inr (.inr ⟨kvs,s,?_⟩)
  rw [←q]
  cases kvs <;> rfl
 |exc _=>cases e
 |obj _ _ _ _=>cases e
 |cel _ _=>cases e
theorem z0S{f:DE}(h:PD X a f)(he:∀whole,isTrue a X.env whole=(do let v ←whole;standAt a.pos;holding [v] (truthy v)):=by intro _;rfl):PTD X a (z1r f):=(x0j h he).imp fun σ H Q ⟨B,δ,k,hB,S,q,kk⟩=>by
 unfold z1r at q
 cases e:f δ with
 |none=>rw [e]at q;cases q
 |some d=>
  rw [e]at q
  exact⟨B,δ,d,hB,S,e,fun v H' s r=>⟨k,y8Q r q,kk H' s⟩⟩
def y6P(f g:DS->Option Bool):DS->Option Bool:=fun δ=>(f δ).bind fun c=>if c=true then g δ else some false
def y5F(f g:DS->Option Bool):DS->Option Bool:=fun δ=>(f δ).bind fun c=>if c=true then some true else g δ
def z6g(f:DS->Option Bool):DS->Option Bool:=fun δ=>(f δ).map (!·)
theorem x2a{f:DS->Option Bool}(h:PTD X a f):PWD X (.BoolOp .And [a] pos) f:=pw_and1 h
theorem z5u{f:DS->Option Bool}(h:PTD X a f):PWD X (.BoolOp .Or [a] pos) f:=pw_or1 h
theorem pw_andD{rest:List Expr}{f g:DS->Option Bool}(ha:PTD X a f)(hb:PWD X (.BoolOp .And (b::rest) pos) g):PWD X (.BoolOp .And (a::b::rest) pos) (y6P f g):=(pw_and ha hb).imp fun σ H Q ⟨B,δ,k,hB,S,q,kk⟩=>by
 unfold y6P at q
 cases e:f δ with
 |none=>rw [e]at q;cases q
 |some c=>
  rw [e]at q
  refine⟨B,δ,c,hB,S,e,fun H1 s1=>?_⟩
  have q':(if c=true then g δ else some false)=some k:=q
  cases c with
  |true=>
   rw [if_pos rfl]at q'
   refine iteT ?_
   exact⟨B,δ,k,hB.mono s1,S.mono s1,q',fun H2 s2=>kk H2 (s1.trans s2)⟩
  |false=>
   rw [if_neg ar]at q'
   refine iteF ?_
   cases q'
   exact kk H1 s1
theorem z6R{rest:List Expr}{f g:DS->Option Bool}(ha:PTD X a f)(hb:PWD X (.BoolOp .Or (b::rest) pos) g):PWD X (.BoolOp .Or (a::b::rest) pos) (y5F f g):=(pw_or ha hb).imp fun σ H Q ⟨B,δ,k,hB,S,q,kk⟩=>by
 unfold y5F at q
 cases e:f δ with
 |none=>rw [e]at q;cases q
 |some c=>
  rw [e]at q
  refine⟨B,δ,c,hB,S,e,fun H1 s1=>?_⟩
  have q':(if c=true then some true else g δ)=some k:=q
  cases c with
  |true=>
   rw [if_pos rfl]at q'
   refine iteT ?_
   cases q'
   exact kk H1 s1
  |false=>
   rw [if_neg ar]at q'
   refine iteF ?_
   exact⟨B,δ,k,hB.mono s1,S.mono s1,q',fun H2 s2=>kk H2 (s1.trans s2)⟩
theorem z3A{f:DS->Option Bool}(h:PTD X a f):PTD X (.UnaryOp .Not a pos) (z6g f):=(pt_not h).imp fun σ H Q ⟨B,δ,k,hB,S,q,kk⟩=>by
 unfold z6g at q
 cases e:f δ with
 |none=>rw [e]at q;cases q
 |some c=>
  rw [e]at q
  cases q
  exact⟨B,δ,c,hB,S,e,kk⟩
def x0R(f g:DE):DE:=fun δ=>match f δ with
 |some (.bl true)=>g δ
 |some (.bl false)=>some (.bl false)
 |_=>none
def dOr(f g:DE):DE:=fun δ=>match f δ with
 |some (.bl true)=>some (.bl true)
 |some (.bl false)=>g δ
 |_=>none
def uNot:D->Option D
 |.bl b=>some (.bl (!b))
 |_=>none
theorem y0b{op}{f:DE}(h:PD X a f):PD X (.BoolOp op [a] pos) f:=pe_one h
theorem y1f{rest:List Expr}{f g:DE}(ha:PD X a f)(hb:PD X (.BoolOp .And (b::rest) pos) g):PD X (.BoolOp .And (a::b::rest) pos) (x0R f g):=(pe_and ha hb).imp fun σ H Q ⟨B,δ,d,hB,S,q,k⟩=>by
 unfold x0R at q
 split at q
 ·rename_i e
  refine⟨B,δ,.bl true,hB,S,e,fun v H1 s1 r=>⟨true,r,?_⟩⟩
  rw [if_pos rfl]
  exact⟨B,δ,d,hB.mono s1,S.mono s1,q,fun v2 H2 s2 r2=>k v2 H2 (s1.trans s2) r2⟩
 ·rename_i e
  cases q
  refine⟨B,δ,.bl false,hB,S,e,fun v H1 s1 r=>⟨false,r,?_⟩⟩
  rw [if_neg ar]
  exact k _ H1 s1 rfl
 ·cases q
theorem pd_or{rest:List Expr}{f g:DE}(ha:PD X a f)(hb:PD X (.BoolOp .Or (b::rest) pos) g):PD X (.BoolOp .Or (a::b::rest) pos) (dOr f g):=(pe_or ha hb).imp fun σ H Q ⟨B,δ,d,hB,S,q,k⟩=>by
 unfold dOr at q
 split at q
 ·rename_i e
  cases q
  refine⟨B,δ,.bl true,hB,S,e,fun v H1 s1 r=>⟨true,r,?_⟩⟩
  rw [if_pos rfl]
  exact k _ H1 s1 rfl
 ·rename_i e
  refine⟨B,δ,.bl false,hB,S,e,fun v H1 s1 r=>⟨false,r,?_⟩⟩
  rw [if_neg ar]
  exact⟨B,δ,d,hB.mono s1,S.mono s1,q,fun v2 H2 s2 r2=>k v2 H2 (s1.trans s2) r2⟩
 ·cases q
theorem y9T{f:DE}(h:PD X a f):PD X (.UnaryOp .Not a pos) (d1 uNot f):=(pe_not h).imp fun σ H Q ⟨B,δ,d,hB,S,q,k⟩=>by
 obtain⟨x,e1,e2⟩:=y7H q
 refine⟨B,δ,x,hB,S,e1,fun v H' s r=>?_⟩
 unfold uNot at e2
 split at e2
 ·cases e2
  exact⟨_,r,k _ H' s rfl⟩
 ·cases e2
def dIf(c:DS->Option Bool)(f g:DE):DE:=fun δ=>(c δ).bind fun k=>if k=true then f δ else g δ
theorem pd_if{t:DS->Option Bool}{f g:DE}(hc:PTD X c t)(ha:PD X a f)(hb:PD X b g):PD X (.IfExp c a b pos) (dIf t f g):=(x1i hc ha hb).imp fun σ H Q ⟨B,δ,d,hB,S,q,k⟩=>by
 unfold dIf at q
 cases e:t δ with
 |none=>rw [e]at q;cases q
 |some c=>
  rw [e]at q
  refine⟨B,δ,c,hB,S,e,fun H1 s1=>?_⟩
  have q':(if c=true then f δ else g δ)=some d:=q
  cases c with
  |true=>
   rw [if_pos rfl]at q'
   refine iteT ?_
   exact⟨B,δ,d,hB.mono s1,S.mono s1,q',fun v2 H2 s2 r2=>k v2 H2 (s1.trans s2) r2⟩
  |false=>
   rw [if_neg ar]at q'
   refine iteF ?_
   exact⟨B,δ,d,hB.mono s1,S.mono s1,q',fun v2 H2 s2 r2=>k v2 H2 (s1.trans s2) r2⟩
def z0o:List DE->DS->Option (List D)
 |[],_=>some []
 |f::r,δ=>(f δ).bind fun x=>(z0o r δ).bind fun xs=>some (x::xs)
theorem z5I{f:DE}{r:List DE}{δ:DS}{ds:List D}(h:z0o (f::r) δ=some ds):∃x xs,f δ=some x∧z0o r δ=some xs∧ds=x::xs:=by
 unfold z0o at h
 cases hx:f δ with
 |none=>rw [hx]at h;cases h
 |some x=>
  rw [hx]at h
  have h':((z0o r δ).bind fun xs=>some (x::xs))=some ds:=h
  cases hy:z0o r δ with
  |none=>rw [hy]at h';cases h'
  |some xs=>
   rw [hy]at h'
   cases h'
   exact⟨x,xs,rfl,rfl,rfl⟩
theorem z2z:∀{fl:List DE} {δ:DS} {ds:List D},z0o fl δ=some ds->ds.length=fl.length
 |[],_,_,h=>by cases h;rfl
 |f::r,δ,ds,h=>by
  obtain⟨x,xs,_,e,rfl⟩:=z5I h
  simp [z2z e]
abbrev PAD(X:Cx)(es:List Expr)(fl:List DE):Prop:=PA X es (tDs X.K (z0o fl))
theorem z0c:PAD X [] []:=pa_nil.imp fun σ H Q ⟨B,δ,ds,hB,S,q,k⟩=>by
 cases q
 exact k [] H (.refl H) .nil
theorem z0a{f:DE}{fl:List DE}(ha:PD X e f)(hr:PAD X es fl)(hs:starEach (e::es) X.env=(false,eval e X.env)::starEach es X.env:=by rfl):PAD X (e::es) (f::fl):=(z1V ha hr hs).imp fun σ H Q ⟨B,δ,ds,hB,S,q,k⟩=>by
 obtain⟨x,xs,e1,e2,rfl⟩:=z5I q
 exact⟨B,δ,x,hB,S,e1,fun v H1 s1 r1=>⟨B,δ,xs,hB.mono s1,S.mono s1,e2,fun vs H2 s2 r2=>k (v::vs) H2 (s1.trans s2) (.cons (r1.mono s2) r2)⟩⟩
theorem z0Y{fl:List DE}(h:PAD X es fl)(hl:fl.length≤1000:=by decide):PF X (.List es pos) (z0o fl):=(y8O h).imp fun σ H Q ⟨B,δ,ds,hB,S,q,k⟩=>by
 refine⟨B,δ,ds,hB,S,q,fun vs H1 s1 r1=>⟨?_,fun p hp=>?_⟩⟩
 ·rw [←r1.length,z2z q]
  exact cT (z6Z hl)
 ·exact k p vs _ (s1.trans (z0n hp)) (s1.free hp) z0m (r1.mono (z0n hp))
def mkT(f:DS->Option (List D)):DE:=fun δ=>(f δ).map .tup
theorem pd_tup{x1}{fl:List DE}(h:PAD X es fl)(hl:fl.length≤1000:=by decide):PD X (.Tuple es x1 pos) (mkT (z0o fl)):=(pe_tup h).imp fun σ H Q ⟨B,δ,d,hB,S,q,k⟩=>by
 unfold mkT at q
 cases r:z0o fl δ with
 |none=>rw [r]at q;cases q
 |some ds=>
  rw [r]at q
  cases q
  refine⟨B,δ,ds,hB,S,r,fun vs H1 s1 r1=>⟨?_,fun p hp=>?_⟩⟩
  ·rw [←r1.length,z2z r]
   exact cT (z6Z hl)
  ·refine k _ _ (s1.trans (z0n hp)) ?_
   unfold Rep
   exact⟨p,vs,rfl,SqT.of z0m,r1.mono (z0n hp)⟩
def ixD:D->D->Option D
 |.lst ds,.int i=>atI ds i
 |.tup ds,.int i=>atI ds i
 |.scr ns,.int i=>(atI ns i).map .int
 |_,_=>none
theorem atI_map{α β:Type}(f:α->β)(xs:List α)(i:Int):atI (xs.map f) i=(atI xs i).map f:=by
 unfold atI
 rw [am]
 cases ixN xs.length i with
 |none=>rfl
 |some j=>simp
theorem y3B{K:aa}{H:Hp}{B:Addr->Prop}{ds:List D}{xs:List V}{i:Int}{d:D}(h:Reps K H B ds xs)(e:atI ds i=some d):∃x,atI xs i=some x∧Rep K H B d x:=by
 unfold atI at e ⊢
 rw [←h.length]
 cases q:ixN ds.length i with
 |none=>rw [q]at e;cases e
 |some j=>
  rw [q]at e
  exact h.get e
theorem o2_ix{K:aa}:Op2 K (rIx K) ixD:=by
 intro H B dx dy d x y Q hB hx hy q k
 unfold ixD at q
 split at q
 ·unfold Rep at hx
  obtain⟨a,xs,rfl,_,s,r⟩:=hx
  obtain⟨v,e,rv⟩:=y3B r q
  exact .inl ⟨a,xs,_,v,rfl,hy,SqL.of s,e,k v H (.refl H) rv⟩
 ·unfold Rep at hx
  obtain⟨a,xs,rfl,s,r⟩:=hx
  obtain⟨v,e,rv⟩:=y3B r q
  exact .inr (.inl ⟨a,xs,_,v,rfl,hy,s,e,k v H (.refl H) rv⟩)
 ·rename_i ns i
  unfold Rep at hx
  obtain⟨a,rfl,s⟩:=hx
  cases e:atI ns i with
  |none=>rw [e]at q;cases q
  |some n=>
   rw [e]at q
   cases q
   exact .inl ⟨a,_,_,.int n,rfl,hy,s.sq,by rw [atI_map,e];rfl,k _ H (.refl H) rfl⟩
 ·cases q
theorem z0K{f g:DE}(ha:PD X a f)(hb:PD X b g)(hs:y2H b:=by intro _ _;rfl):PD X (.Subscript a b pos) (d2 ixD f g):=(pe_ix ix_seq ha hb hs).imp (y3K o2_ix)
def spR(K:aa)(F:List D->Option D):Sp:=fun vs H Q _=>∃B ds d,InB B H∧Reps K H B ds vs∧F ds=some d∧∀v H',Same H H'->Rep K H' B d v->Q v H'
def spN(K:aa)(F:List D->Option D):Sp:=fun vs H Q _=>∃ds d,Reps K H noB ds vs∧F ds=some d∧∀v H' A,Same H H'->Tree K H' d v A->A.Nodup->(∀a∈A,H a=none)->Q v H'
structure DefOk(P:Program)(w:World)(K:aa)(mg:Str->Option Value)(base:Heap)(k:Nat)(x:Str)(sp:Sp):Prop where
 ok:∃(f:Addr) (fd:FuncData) (ps:List Str),mg x=some (.ref f)∧bV K (.ref f)=true∧Binds K fd ps []∧FnOk P w K mg base CX0 k f fd ps sp
def z0i(F:List D->Option D)(fl:List DE):DE:=fun δ=>(z0o fl δ).bind F
theorem z5x{F:List D->Option D}{fl:List DE}{δ:DS}{d:D}(h:z0i F fl δ=some d):∃ds,z0o fl δ=some ds∧F ds=some d:=by
 unfold z0i at h
 cases q:z0o fl δ with
 |none=>rw [q]at h;cases h
 |some ds=>rw [q]at h;exact⟨ds,rfl,h⟩
end
end L2
namespace L2
open PySem PySem.Spec PyProof.Rows
section
variable{X:Cx}{e a b c:Expr}{es:List Expr}{pos p:Pos}{x:Str}{k:Nat}{tg iter elt:Expr}
theorem y3F{sp:Sp}{t:TA}(G:DefOk X.prog X.w X.K X.mg X.base k x sp)(hr:Room k X.A)(hg:Gl X x)(ha:PA X (e::es) t)(hdb:(x==("__debug__" : Str))=false:=by decide)
  (he:starEach (e::es) X.env=(false,eval e X.env)::starEach es X.env:=by rfl) (hpl:(backTo pos (starEach es X.env)).any (·.1)=false:=by rfl):PE X (.Call (.Name x p) (e::es) [] pos) (tCall sp [] E0 t):=by
 obtain⟨f,fd,ps,hm,hk,hb,ok⟩:=G.ok
 exact pe_call ok hr hg hm hk hb .nil pass0 ha hdb he hpl
theorem z6r{F:List D->Option D}{fl:List DE}(G:DefOk X.prog X.w X.K X.mg X.base k x (spR X.K F))(hr:Room k X.A)(hg:Gl X x)(ha:PAD X (e::es) fl)(hdb:(x==("__debug__" : Str))=false:=by decide)
  (he:starEach (e::es) X.env=(false,eval e X.env)::starEach es X.env:=by rfl) (hpl:(backTo pos (starEach es X.env)).any (·.1)=false:=by rfl):PD X (.Call (.Name x p) (e::es) [] pos) (z0i F fl):=
 (y3F G hr hg ha hdb he hpl).imp fun σ H Q ⟨B,δ,d,hB,S,q,k⟩=>by
  obtain⟨ds,e1,e2⟩:=z5x q
  refine⟨B,δ,ds,hB,S,e1,fun vs H1 s1 r1=>?_⟩
  show spR X.K F (vs++[]) H1 Q E0
  rw [aP]
  exact⟨B,ds,d,hB.mono s1,r1,e2,fun v H' s' r=>k v H' (s1.trans s') r⟩
theorem z0h{F:List D->Option D}{fl:List DE}(G:DefOk X.prog X.w X.K X.mg X.base k x (spN X.K F))(hr:Room k X.A)(hg:Gl X x)(ha:PAD X (e::es) fl)(hdb:(x==("__debug__" : Str))=false:=by decide)
  (he:starEach (e::es) X.env=(false,eval e X.env)::starEach es X.env:=by rfl) (hpl:(backTo pos (starEach es X.env)).any (·.1)=false:=by rfl):PN X (.Call (.Name x p) (e::es) [] pos) (z0i F fl):=
 (y3F G hr hg ha hdb he hpl).imp fun σ H Q ⟨δ,d,S,q,k⟩=>by
  obtain⟨ds,e1,e2⟩:=z5x q
  refine⟨noB,δ,ds,.no,S,e1,fun vs H1 s1 r1=>?_⟩
  show spN X.K F (vs++[]) H1 Q E0
  rw [aP]
  exact⟨ds,d,r1,e2,fun v H' A s' t nd fr=>k v H' A (s1.trans s') t nd fun a ha=>s1.free (fr a ha)⟩
structure ItD(K:aa)(J:It)(H:Hp)(B:Addr->Prop)(ds:List D):Prop where
 go:∀i H',Keep K B H H'->i<ds.length->J.go i H'
 stop:∀i H',Keep K B H H'->ds.length≤i->J.stop i H'
 yld:∀i H' x H2,Keep K B H H'->J.yld i H' x H2->Same H' H2∧∃d,(i<ds.length->ds[i]? = some d)∧Rep K H2 B d x
def ItW(K:aa)(J:It)(H:Hp)(B:Addr->Prop)(ds:List D):Prop:=∀C:Addr->Prop,(∀a,C a->H a=none)->ItD K J H (fun a=>B a∨C a) ds
def tI(K:aa)(f:DS->Option (List D)):TI:=fun σ H R=>∃B δ ds,InB B H∧RepS K H B σ δ∧f δ=some ds∧∀J H',Same H H'->ItW K J H' B ds->R J H'
abbrev PID(X:Cx)(tg iter:Expr)(f:DS->Option (List D)):Prop:=PI X tg iter (tI X.K f)
theorem PI.imp{wi wi':TI}(h:PI X tg iter wi)(w:∀σ H R,wi' σ H R->wi σ H R):PI X tg iter wi':=fun pins s σ H R I q=>h pins s σ H R I (w σ H R q)
def iSeq(K:aa)(tl:TE):TI:=fun σ H R=>tl σ H fun x H1=>∃a,x = .ref a∧(((∃xs,SqL K H1 a xs)∧R (Itl K a) H1)∨((∃xs,SqT K H1 a xs)∧R (Itt K a) H1))
theorem pi_seq{l:Expr}{tl:TE}(hl:PE X l tl):PI X tg l (iSeq X.K tl):=by
 intro pins s σ H R I h
 refine thn (hl pins s σ H _ I h) fun v s1 ⟨x,H1,I1,r1,q1⟩=>?_
 obtain⟨a,e,q1⟩:=q1
 subst e
 cases r1
 have fp:∀b∈[s1.heap.objs.size],y0M X pins H1 b:=fun b hb=>by
  have e:b=s1.heap.objs.size:=by simpa using hb
  subst e
  exact I1.fpOk (ao _) (I1.hok.fresh (ao _))
 rcases q1 with⟨⟨xs,hq⟩,q⟩ | ⟨⟨xs,hq⟩,q⟩
 ·obtain⟨its,rv,p,hz⟩:=I1.list hq
  refine wpAny_pyIter_list p.isList ?_
  exact⟨s1.heap.objs.size,[s1.heap.objs.size],_,_,H1,rfl,I1.kept (t':=s1.toks) fun b o e=>Heap.get?_push_of_some _ e,y6A a _,⟨_,Heap.get?_push_size _ rfl,rfl,rfl⟩,fp,q⟩
 ·obtain⟨its,rv,p,hz⟩:=I1.tuple hq
  refine wpAny_pyIter_tuple (show s1.heap.IsTuple a its.toArray from p) ?_
  exact⟨s1.heap.objs.size,[s1.heap.objs.size],_,_,H1,rfl,I1.kept (t':=s1.toks) fun b o e=>Heap.get?_push_of_some _ e,y4O a _,⟨_,Heap.get?_push_size _ rfl,rfl,rfl⟩,fp,q⟩
def y4W:D->Option (List D)
 |.lst ds=>some ds
 |.tup ds=>some ds
 |.scr ns=>some (ns.map .int)
 |_=>none
def z5l(f:DE):DS->Option (List D):=fun δ=>(f δ).bind y4W
theorem x1V{K:aa}{H:Hp}{B:Addr->Prop}{a:Addr}{xs:List V}{ds:List D}(n:¬ B a)(h:H a=some (.lst xs))(r:Reps K H B ds xs):ItD K (Itl K a) H B ds:=by
 have hl:=r.length
 refine⟨fun i H' kp hi=>?_,fun i H' kp hi=>?_,fun i H' x H2 kp y=>?_⟩
 ·exact⟨xs,xs[i],SqL.of (kp.sl a xs n h),by rw [ac]⟩
 ·exact⟨xs,SqL.of (kp.sl a xs n h),by omega⟩
 ·obtain⟨e,y⟩:=y
  subst e
  have hx:=y xs (SqL.of (kp.sl a xs n h))
  obtain⟨d,e,rd⟩:=(Reps.keep kp ds r).get' hx
  exact⟨.refl _,d,fun _=>e,rd⟩
theorem itd_tup{K:aa}{H:Hp}{B:Addr->Prop}{a:Addr}{xs:List V}{ds:List D}(h:SqT K H a xs)(r:Reps K H B ds xs):ItD K (Itt K a) H B ds:=by
 have hl:=r.length
 refine⟨fun i H' kp hi=>?_,fun i H' kp hi=>?_,fun i H' x H2 kp y=>?_⟩
 ·exact⟨xs,xs[i],kp.st a xs h,by rw [ac]⟩
 ·exact⟨xs,kp.st a xs h,by omega⟩
 ·obtain⟨e,y⟩:=y
  subst e
  have hx:=y xs (kp.st a xs h)
  obtain⟨d,e,rd⟩:=(Reps.keep kp ds r).get' hx
  exact⟨.refl _,d,fun _=>e,rd⟩
theorem z1K{K:aa}{H:Hp}{B:Addr->Prop}:∀ns:List Int,Reps K H B (ns.map D.int) (ns.map V.int)
 |[]=>.nil
 |n::ns=>.cons rfl (z1K ns)
theorem itd_scr{K:aa}{H:Hp}{B:Addr->Prop}{a:Addr}{ns:List Int}(h:SqF K H a (ns.map V.int)):ItD K (Itl K a) H B (ns.map D.int):=by
 have r:∀H',Reps K H' B (ns.map D.int) (ns.map V.int):=fun _=>z1K ns
 refine⟨fun i H' kp hi=>?_,fun i H' kp hi=>?_,fun i H' x H2 kp y=>?_⟩
 ·exact⟨ns.map V.int,(ns.map V.int)[i]'(by simpa using hi),(kp.sf a _ h).sq,by rw [ac]⟩
 ·exact⟨ns.map V.int,(kp.sf a _ h).sq,by simpa using hi⟩
 ·obtain⟨e,y⟩:=y
  subst e
  have hx:=y _ (kp.sf a _ h).sq
  obtain⟨d,e,rd⟩:=(r _).get' hx
  exact⟨.refl _,d,fun _=>e,rd⟩
theorem z0D{l:Expr}{f:DE}(h:PD X l f):PID X tg l (z5l f):=(pi_seq h).imp fun σ H R ⟨B,δ,ds,hB,S,q,k⟩=>by
 unfold z5l at q
 cases e:f δ with
 |none=>rw [e]at q;cases q
 |some d=>
  rw [e]at q
  have q':y4W d=some ds:=q
  refine⟨B,δ,d,hB,S,e,fun v H1 s1 r1=>?_⟩
  unfold y4W at q'
  split at q'
  ·cases q'
   unfold Rep at r1
   obtain⟨a,xs,rfl,n,h,r⟩:=r1
   exact⟨a,rfl,.inl ⟨⟨xs,SqL.of h⟩,k _ H1 s1 fun C hC=>x1V (fun z=>z.elim n fun z=>by rw [hC a z]at h;cases h) h (Reps.wide hC _ r)⟩⟩
  ·cases q'
   unfold Rep at r1
   obtain⟨a,xs,rfl,h,r⟩:=r1
   exact⟨a,rfl,.inr ⟨⟨xs,h⟩,k _ H1 s1 fun C hC=>itd_tup h (Reps.wide hC _ r)⟩⟩
  ·cases q'
   unfold Rep at r1
   obtain⟨a,rfl,h⟩:=r1
   exact⟨a,rfl,.inl ⟨⟨_,h.sq⟩,k _ H1 s1 fun C hC=>itd_scr h⟩⟩
  ·cases q'
def z4p(lo:Int)(n:Nat):List D:=(ad n).map fun i=>.int (lo+(i:Nat))
theorem y3u{lo:Int}{n i:Nat}(h:i<n):(z4p lo n)[i]? = some (.int (lo+i)):=by
 unfold z4p
 rw [aN,dA h]
 rfl
theorem z3h(lo:Int)(n:Nat):(z4p lo n).length=n:=by unfold z4p;rw [am,aW]
theorem y9W{K:aa}{H:Hp}{B:Addr->Prop}{lo:Int}{n:Nat}:ItD K (Itr lo n) H B (z4p lo n):=by
 refine⟨fun i H' _ hi=>?_,fun i H' _ hi=>?_,fun i H' x H2 _ y=>?_⟩
 ·rw [z3h]at hi;exact hi
 ·rw [z3h]at hi;exact hi
 ·obtain⟨e,y⟩:=y
  subst e y
  exact⟨.refl _,.int (lo+i),fun h=>y3u (by rwa [z3h]at h),rfl⟩
def z3y(f:DE):DS->Option (List D):=fun δ=>match f δ with
 |some (.int j)=>if -(2 ^ 62)≤j∧j<2 ^ 62 then some (z4p 0 j.toNat)else none
 |_=>none
def y6F(f g:DE):DS->Option (List D):=fun δ=>match f δ,g δ with
 |some (.int i),some (.int j)=>if -(2 ^ 62)≤i∧i<2 ^ 62∧-(2 ^ 62)≤j∧j<2 ^ 62 then some (z4p i (j - i).toNat)else none
 |_,_=>none
theorem z1o{f:DE}(hg:Gl X "range")(hm:X.mg "range" = none)(ha:PD X a f)(hs:starEach [a] X.env=[(false,eval a X.env)]:=by rfl):PID X tg (.Call (.Name "range" p) [a] [] pos) (z3y f):=
 (y0C hg hm (z0a ha z0c hs) hs).imp fun σ H R ⟨B,δ,ds,hB,S,q,k⟩=>by
  unfold z3y at q
  split at q
  ·rename_i j e
   split at q
   ·rename_i hj
    cases q
    have ea:z0o [f] δ=some [.int j]:=by unfold z0o;rw [e];rfl
    refine⟨B,δ,[.int j],hB,S,ea,fun vs H1 s1 r1=>?_⟩
    unfold Reps at r1
    obtain⟨x,r,rfl,rx,rr⟩:=r1
    unfold Reps at rr
    subst rr
    exact⟨j,by rw [show x=V.int j from rx],hj.1,hj.2,k _ H1 s1 fun C _=>y9W⟩
   ·cases q
  ·cases q
theorem y9B{f g:DE}(hg:Gl X "range")(hm:X.mg "range" = none)(ha:PD X a f)(hb:PD X b g)(hs:starEach [a,b] X.env=[(false,eval a X.env),(false,eval b X.env)]:=by rfl)(hs2:starEach [b] X.env=[(false,eval b X.env)]:=by rfl):
  PID X tg (.Call (.Name "range" p) [a,b] [] pos) (y6F f g):=
 (y9p hg hm (z0a ha (z0a hb z0c hs2) (by rw [hs,hs2])) hs hs2).imp fun σ H R ⟨B,δ,ds,hB,S,q,k⟩=>by
  unfold y6F at q
  split at q
  ·rename_i i j e e'
   split at q
   ·rename_i hj
    cases q
    have ea:z0o [f,g] δ=some [.int i,.int j]:=by unfold z0o z0o;rw [e,e'];rfl
    refine⟨B,δ,[.int i,.int j],hB,S,ea,fun vs H1 s1 r1=>?_⟩
    unfold Reps at r1
    obtain⟨x,r,rfl,rx,rr⟩:=r1
    unfold Reps at rr
    obtain⟨y,r',rfl,ry,rr⟩:=rr
    unfold Reps at rr
    subst rr
    exact⟨i,j,by rw [show x=V.int i from rx,show y=V.int j from ry],hj,k _ H1 s1 fun C _=>y9W⟩
   ·cases q
  ·cases q
def x0p:Option D->List D->List D
 |some y,ys=>y::ys
 |none,ys=>ys
def z1p(h:D->Option (Option D)):List D->Option (List D)
 |[]=>some []
 |x::r=>(h x).bind fun o=>(z1p h r).bind fun ys=>some (x0p o ys)
theorem z5L{h:D->Option (Option D)}{x:D}{r ds:List D}(e:z1p h (x::r)=some ds):∃o ys,h x=some o∧z1p h r=some ys∧ds=x0p o ys:=by
 unfold z1p at e
 cases q:h x with
 |none=>rw [q]at e;cases e
 |some o=>
  rw [q]at e
  have e':((z1p h r).bind fun ys=>some (x0p o ys))=some ds:=e
  cases q':z1p h r with
  |none=>rw [q']at e';cases e'
  |some ys=>
   rw [q']at e'
   exact⟨o,ys,rfl,rfl,(Option.some.inj e').symm⟩
def z0U(fi:DS->Option (List D))(fc:DS->Option Bool)(fe:DE):DS->Option (List D):=fun δ=>(fi δ).bind fun xs=>if xs.length≤sizeLine then
 z1p (fun x=>(fc (δ++[some x])).bind fun k=>if k=true then(fe (δ++[some x])).map some else some none) xs else none
def z3x:DS->Option Bool:=fun _=>some true
theorem z0y{X:Cx}:y7f X [] (tT X.K z3x):=fun pins s σ H Q I ⟨B,δ,b,hB,S,q,k⟩=>x1P pins s σ H Q I (by cases q;exact k H (.refl H))
theorem z1t{X:Cx}{c:Expr}{f:DS->Option Bool}(h:PTD X c f):y7f X [c] (tT X.K f):=x1Q h
theorem RepS.snoc{K:aa}{H:Hp}{B:Addr->Prop}{σ:St}{δ:DS}{d:D}{v:V}(S:RepS K H B σ δ)(r:Rep K H B d v):RepS K H B (σ++[some v]) (δ++[some d]):=by
 refine⟨by simp [S.len],fun i d' e=>?_⟩
 by_cases hi:i<δ.length
 ·rw [bv hi]at e
  obtain⟨w,e',r'⟩:=S.get i d' e
  exact⟨w,by rw [bv (by rw [←S.len];exact hi)];exact e',r'⟩
 ·by_cases hj:i=δ.length
  ·subst hj
   rw [bY (ao _),Nat.sub_self]at e
   cases e
   refine⟨v,?_,r⟩
   rw [S.len,bY (ao _),Nat.sub_self]
   rfl
  ·rw [bZ (by simp;omega)]at e
   cases e
theorem RepS.wide{K:aa}{H:Hp}{B C:Addr->Prop}{σ:St}{δ:DS}(h:RepS K H B σ δ)(hc:∀a,C a->H a=none):RepS K H (fun a=>B a∨C a) σ δ:=
 ⟨h.len,fun i d q=>let⟨v,a,r⟩:=h.get i d q;⟨v,a,Rep.wide hc d r⟩⟩
theorem z9I{w v:Option V}:∀{σ:St},(σ++[w]).set σ.length v=σ++[v]
 |[]=>rfl
 |x::r=>congrArg (x :: ·) (z9I (σ:=r))
variable{N':List Str}{sc:Scope}{ifs:List Expr}{n:Nat}{px:Pos}{fi:DS->Option (List D)}{fc:DS->Option Bool}{fe:DE}
theorem y3w{σ:St}{H:Hp}{Q:VK}(hσ:σ.length=n)(hq:tF X.K (z0U fi fc fe) σ H Q):y6N (tI X.K fi) (z2r n) (tT X.K fc) (tD X.K fe) 1 σ H Q:=by
 obtain⟨B,δ,ds,hB,Sδ,q,k⟩:=hq
 unfold z0U at q
 cases e1:fi δ with
 |none=>rw [e1]at q;cases q
 |some xs=>
 rw [e1]at q
 have q1:(if xs.length≤sizeLine then z1p (fun x=>(fc (δ++[some x])).bind fun k=>if k=true then(fe (δ++[some x])).map some else some none) xs else none)=some ds:=q
 split at q1
 case isFalse=>cases q1
 case isTrue hsz=>
 refine⟨B,δ,xs,hB,Sδ,e1,fun J H1 s1 itw=>fun Da hD=>?_⟩
 have hD0:H Da=none:=s1.free hD
 have it:=itw (fun a=>a=Da) fun a ha=>by rw [ha];exact hD
 have Sw:RepS X.K H1 (fun a=>B a∨a=Da) σ δ:=(Sδ.mono s1).wide fun a ha=>by rw [ha];exact hD
 refine⟨fun i m σ' H'=>m=xs.length - i∧i≤xs.length∧(∃w,σ'=σ++[w])∧Same H1 H'∧∃ys dn rs,H' Da=some (.lst ys)∧Reps X.K H' (fun a=>B a∨a=Da) dn ys∧ds=dn++rs∧dn.length≤i ∧
  z1p (fun x=>(fc (δ++[some x])).bind fun k=>if k=true then(fe (δ++[some x])).map some else some none) (xs.drop i)=some rs,
  ⟨xs.length,by simp,bX _,⟨none,rfl⟩,z0n hD,[],[],ds,z0m,.nil,rfl,ao _,q1⟩,?_⟩
 rintro i m σ' H' ⟨rfl,hi',⟨w,rfl⟩,sm,ys,dn,rs,hys,rys,hds,hln,hrs⟩
 have kp:Keep X.K (fun a=>B a∨a=Da) H1 H':=.same sm
 by_cases hlt:i<xs.length
 ·refine .inr ⟨it.go i H' kp hlt,fun σ'' H''=>(i+1≤xs.length∧(∃w,σ''=σ++[w])∧Same H1 H''∧∃ys dn rs,H'' Da=some (.lst ys)∧Reps X.K H'' (fun a=>B a∨a=Da) dn ys∧ds=dn++rs∧dn.length≤i+1 ∧
   z1p (fun x=>(fc (δ++[some x])).bind fun k=>if k=true then(fe (δ++[some x])).map some else some none) (xs.drop (i+1))=some rs),fun σ'' H'' h=>⟨xs.length - (i+1),by omega,rfl,h⟩,fun xv H2 hy=>?_⟩
  obtain⟨s2,d,hd,rd⟩:=it.yld i H' xv H2 kp hy
  have hdi:=hd hlt
  have hx:xs.drop i=d::xs.drop (i+1):=by
   obtain⟨hl,e⟩:=aX.mp hdi
   rw [bx hl,e]
  rw [hx]at hrs
  obtain⟨o,rs',e2,e3,e4⟩:=z5L hrs
  show tT X.K fc ((σ++[w]).set n (some xv)) H2 _
  rw [←hσ,z9I]
  have hB1:InB (fun a=>B a∨a=Da) H2:=fun a ha=>ha.elim (fun z=>(((hB.mono s1).mono sm).mono s2) a z) fun z=>⟨_,s2 _ _ (z ▸ hys)⟩
  have S2:RepS X.K H2 (fun a=>B a∨a=Da) (σ++[some xv]) (δ++[some d]):=((Sw.mono sm).mono s2).snoc rd
  have hl2:ys.length<sizeLine:=by
   have:=rys.length
   omega
  cases ec:fc (δ++[some d])with
  |none=>rw [ec]at e2;cases e2
  |some kk=>
   rw [ec]at e2
   have e2':(if kk=true then(fe (δ++[some d])).map some else some none)=some o:=e2
   refine⟨_,δ++[some d],kk,hB1,S2,ec,fun H3 s3=>?_⟩
   cases kk with
   |false=>
    rw [if_neg ar]at e2'
    rw [if_neg ar]
    cases e2'
    exact⟨hlt,⟨_,rfl⟩,(sm.trans s2).trans s3,ys,dn,rs',s3 _ _ (s2 _ _ hys),(rys.mono s2).mono s3,by rw [hds,e4];rfl,dU hln,e3⟩
   |true=>
    rw [if_pos rfl]at e2'
    rw [if_pos rfl]
    cases ey:fe (δ++[some d])with
    |none=>rw [ey]at e2';cases e2'
    |some y=>
     rw [ey]at e2'
     cases e2'
     refine⟨_,δ++[some d],y,hB1.mono s3,S2.mono s3,ey,fun yv H5 s5 r5=>⟨ys,s5 _ _ (s3 _ _ (s2 _ _ hys)),hl2,?_⟩⟩
     have hu:H5 Da=some (.lst ys):=s5 _ _ (s3 _ _ (s2 _ _ hys))
     refine⟨hlt,⟨_,rfl⟩,fun b u hb=>?_,ys++[yv],dn++[y],rs',z0m,?_,by rw [hds,e4,aZ];rfl,by rw [aF];simp;omega,e3⟩
     ·rw [z0q (z1e hb hD)]
      exact s5 _ _ (s3 _ _ (s2 _ _ (sm _ _ hb)))
     ·exact Reps.keep (.upd (.inr rfl) (by rw [hu];exact trivial)) _ (((rys.mono s2).mono s3 |>.mono s5).snoc r5)
 ·have e:i=xs.length:=by omega
  subst e
  refine .inl ⟨it.stop _ H' kp (ao _),?_⟩
  rw [ci]at hrs
  cases hrs
  rw [aP]at hds
  subst hds
  exact k Da ys H' (s1.trans sm) hD0 hys (rys.anti fun a z=>.inl z)
theorem z1u(hc:X.calm=true)(S:CompScope X.N X.env.scope.names N' 1 sc)(hn:n=X.N.length)(hi:PID X (.Name x px) iter fi)
  (hg:∀s H fp pins E,PG (z0F X N' sc s H fp pins E) (.Name x px) (z2r n)) (ht:∀s H fp pins E,y7f (z0F X N' sc s H fp pins E) ifs (tT X.K fc)) (he:∀s H fp pins E,PE (z0F X N' sc s H fp pins E) elt (tD X.K fe))
  (hs:∀x,foldedSetIterable iter X.env x=pure x:=by intro _;rfl):PF X (.ListComp elt [⟨.Name x px,iter,ifs,0⟩] sc pos) (z0U fi fc fe):=by
 intro pins s σ H Q I hq
 exact y2d hc S hi ⟨hg,ht,he⟩ hs pins s σ H Q I (y3w (by rw [hn,I.len]) hq)
theorem pas_cF{i:Nat}{y:Str}{py spos:Pos}(hN:X.N.Nodup)(hy:X.N[i]? = some y)(hyl:X.env.scope.names.lookup y=some .local)(hc:X.calm=true)(S:CompScope X.N X.env.scope.names N' 1 sc)(hn:n=X.N.length)(hi:PID X (.Name x px) iter fi)
  (hg:∀s H fp pins E,PG (z0F X N' sc s H fp pins E) (.Name x px) (z2r n)) (ht:∀s H fp pins E,y7f (z0F X N' sc s H fp pins E) ifs (tT X.K fc)) (he:∀s H fp pins E,PE (z0F X N' sc s H fp pins E) elt (tD X.K fe))
  (hsw:swapsWith (.ListComp elt [⟨.Name x px,iter,ifs,0⟩] sc pos) (some (.Name y py)) spos.line X.env=pure true:=by rfl) (hs:∀x,foldedSetIterable iter X.env x=pure x:=by intro _;rfl):
  PS X (.Assign [.Name y py] (.ListComp elt [⟨.Name x px,iter,ifs,0⟩] sc pos) spos) (tAsg (tF X.K (z0U fi fc fe)) (z2r i)):=by
 intro pins s σ H D I hq
 exact y8f hc S hN hy hyl hi ⟨hg,ht,he⟩ hsw hs pins s σ H D I (y3w (by rw [hn,I.len]) hq)
end
end L2
namespace L2
open PySem PySem.Spec PyProof.Rows
inductive SD where
 |sh (d:D) | ow (d:D) | bo (r:Nat) (d:D)
abbrev SS:=List (Option SD)
def SD.val:SD->D
 |.sh d=>d
 |.ow d=>d
 |.bo _ d=>d
def z0u(δ:SS):DS:=δ.map (Option.map SD.val)
def shO:Option SD->Option D
 |some (.sh d)=>some d
 |_=>none
def shV(δ:SS):DS:=δ.map shO
structure RS(K:aa)(H0:Hp)(B0:Addr->Prop)(H:Hp)(σ:St)(δ:SS)(R:Nat->List Addr):Prop where
 keep:Same H0 H
 inB:InB B0 H0
 len:δ.length=σ.length
 new:∀r a,a∈R r->H0 a=none
 held:∀r a,a∈R r->∃o,H a=some o∧Mut (some o)
 disj:∀r s a,a∈R r->a∈R s->r=s
 sh:∀(i:Nat) (d:D),δ[i]? = some (some (.sh d))->∃v,σ[i]? = some (some v)∧Rep K H (fun a=>B0 a∨∃r,a∈R r) d v
 bo:∀(i r:Nat) (d:D),δ[i]? = some (some (.bo r d))->∃v,σ[i]? = some (some v)∧Rep K H (fun a=>B0 a∨∃s,s≠r∧a∈R s) d v
 ow:∀(i:Nat) (d:D),δ[i]? = some (some (.ow d))->∃v,σ[i]? = some (some v)∧Tree K H d v (R i)∧(R i).Nodup
structure Stp(R:Nat->List Addr)(H:Hp)(R':Nat->List Addr)(H':Hp):Prop where
 keep:∀a o,H a=some o->(∀r,a∉R r)->H' a=some o
 from':∀r a,a∈R' r->(∃s,a∈R s)∨H a=none
 there:∀a,H' a=none->H a=none
theorem Stp.refl(R:Nat->List Addr)(H:Hp):Stp R H R H:=⟨fun _ _ h _=>h,fun r _ h=>.inl ⟨r,h⟩,fun _ h=>h⟩
theorem Stp.trans{R R1 R2:Nat->List Addr}{H H1 H2:Hp}(a:Stp R H R1 H1)(b:Stp R1 H1 R2 H2):Stp R H R2 H2:=by
 refine⟨fun x o h n=>b.keep x o (a.keep x o h n) fun r hr=>?_,fun r x h=>?_,fun x h=>a.there x (b.there x h)⟩
 ·rcases a.from' r x hr with⟨s,z⟩ | z
  ·exact n s z
  ·rw [h]at z;cases z
 ·rcases b.from' r x h with⟨s,z⟩ | z
  ·exact a.from' s x z
  ·exact .inr (a.there x z)
theorem Stp.same{R:Nat->List Addr}{H H':Hp}(e:Same H H'):Stp R H R H':=⟨fun a o h _=>e a o h,fun r _ h=>.inl ⟨r,h⟩,fun _ h=>e.free h⟩
section
variable{K:aa}{H0 H H':Hp}{B0:Addr->Prop}{σ:St}{δ:SS}{R:Nat->List Addr}
theorem x0v{i:Nat}{d:D}(h:(z0u δ)[i]? = some (some d)):∃x,δ[i]? = some (some x)∧x.val=d:=by
 unfold z0u at h
 rw [aN]at h
 cases e:δ[i]? with
 |none=>rw [e]at h;cases h
 |some o=>
  rw [e]at h
  cases o with
  |none=>cases h
  |some x=>cases h;exact⟨x,rfl,rfl⟩
theorem shV_get{i:Nat}{d:D}(h:(shV δ)[i]? = some (some d)):δ[i]? = some (some (.sh d)):=by
 unfold shV at h
 rw [aN]at h
 cases e:δ[i]? with
 |none=>rw [e]at h;cases h
 |some o=>
  rw [e]at h
  have h':shO o=some d:=Option.some.inj h
  unfold shO at h'
  split at h'
  ·cases h';rfl
  ·cases h'
theorem RS.all(h:RS K H0 B0 H σ δ R):RepS K H noB σ (z0u δ):=by
 refine⟨by unfold z0u;rw [am];exact h.len,fun i d e=>?_⟩
 obtain⟨x,e',rfl⟩:=x0v e
 cases x with
 |sh d=>
  obtain⟨v,e1,r⟩:=h.sh i d e'
  exact⟨v,e1,r.anti fun _ z=>z.elim⟩
 |bo r d=>
  obtain⟨v,e1,r⟩:=h.bo i r d e'
  exact⟨v,e1,r.anti fun _ z=>z.elim⟩
 |ow d=>
  obtain⟨v,e1,t,_⟩:=h.ow i d e'
  exact⟨v,e1,t.rep d fun _ _ z=>z.elim⟩
theorem RS.shr(h:RS K H0 B0 H σ δ R):RepS K H (fun a=>B0 a∨∃r,a∈R r) σ (shV δ):=by
 refine⟨by unfold shV;rw [am];exact h.len,fun i d e=>h.sh i d (shV_get e)⟩
theorem RS.inAll(h:RS K H0 B0 H σ δ R):InB (fun a=>B0 a∨∃r,a∈R r) H:=fun a ha=>by
 rcases ha with z | ⟨r,z⟩
 ·exact(h.inB.mono h.keep) a z
 ·obtain⟨o,e,_⟩:=h.held r a z
  exact⟨o,e⟩
theorem RS.mono(h:RS K H0 B0 H σ δ R)(e:Same H H'):RS K H0 B0 H' σ δ R:=by
 refine⟨h.keep.trans e,h.inB,h.len,h.new,fun r a z=>?_,h.disj,fun i d z=>?_,fun i r d z=>?_,fun i d z=>?_⟩
 ·obtain⟨o,e1,m⟩:=h.held r a z
  exact⟨o,e a o e1,m⟩
 ·obtain⟨v,e1,r⟩:=h.sh i d z
  exact⟨v,e1,r.mono e⟩
 ·obtain⟨v,e1,r⟩:=h.bo i r d z
  exact⟨v,e1,r.mono e⟩
 ·obtain⟨v,e1,t,nd⟩:=h.ow i d z
  exact⟨v,e1,t.mono e,nd⟩
theorem RS.setSh{i:Nat}{d:D}{v:V}(h:RS K H0 B0 H σ δ R)(r:Rep K H (fun a=>B0 a∨∃r,a∈R r) d v):RS K H0 B0 H (σ.set i (some v)) (δ.set i (some (.sh d))) R:=by
 have gs:∀{α:Type} {l:List (Option α)} {i j:Nat} {x:Option α} {y:α},(l.set i x)[j]? = some (some y)->(j=i∧x=some y)∨(j≠i∧l[j]? = some (some y)):=fun {α l i j x y} e=>by
  by_cases hj:j=i
  ·subst hj
   rw [cw]at e
   simp only [if_true]at e
   split at e
   ·exact .inl ⟨rfl,Option.some.inj e⟩
   ·cases e
  ·rw [bp (Ne.symm hj)]at e
   exact .inr ⟨hj,e⟩
 have up:∀{j:Nat} {w:V},j≠i->σ[j]? = some (some w)->(σ.set i (some v))[j]? = some (some w):=fun hj e=>by rw [bp (Ne.symm hj)];exact e
 refine⟨h.keep,h.inB,by simp [h.len],h.new,h.held,h.disj,fun j d' z=>?_,fun j r' d' z=>?_,fun j d' z=>?_⟩
 ·rcases gs z with⟨rfl,q⟩ | ⟨hj,q⟩
  ·cases q
   have hl:j<σ.length:=by
    rw [←h.len]
    by_cases hl:j<δ.length
    ·exact hl
    ·rw [bZ (by simp;omega)]at z;cases z
   exact⟨v,by rw [cw];simp [hl],r⟩
  ·obtain⟨w,e1,r⟩:=h.sh j d' q
   exact⟨w,up hj e1,r⟩
 ·rcases gs z with⟨rfl,q⟩ | ⟨hj,q⟩
  ·cases q
  ·obtain⟨w,e1,r⟩:=h.bo j r' d' q
   exact⟨w,up hj e1,r⟩
 ·rcases gs z with⟨rfl,q⟩ | ⟨hj,q⟩
  ·cases q
  ·obtain⟨w,e1,t⟩:=h.ow j d' q
   exact⟨w,up hj e1,t⟩
def z5W(R:Nat->List Addr)(i:Nat)(A:List Addr):Nat->List Addr:=fun r=>if r=i then A else R r
theorem z0C{i:Nat}{A:List Addr}:z5W R i A i=A:=if_pos rfl
theorem z0T{i r:Nat}{A:List Addr}(h:r≠i):z5W R i A r=R r:=if_neg h
theorem z1D{α:Type}{l:List (Option α)}{i j:Nat}{x:Option α}{y:α}(e:(l.set i x)[j]? = some (some y)):(j=i∧x=some y∧i<l.length)∨(j≠i∧l[j]? = some (some y)):=by
 by_cases hj:j=i
 ·subst hj
  rw [cw]at e
  simp only [if_true]at e
  split at e
  ·rename_i hl
   exact .inl ⟨rfl,Option.some.inj e,hl⟩
  ·cases e
 ·rw [bp (Ne.symm hj)]at e
  exact .inr ⟨hj,e⟩
theorem RS.setOw{Hold:Hp}{i:Nat}{d:D}{v:V}{A:List Addr}(h:RS K H0 B0 Hold σ δ R)(e:Same Hold H)(t:Tree K H d v A)(nd:A.Nodup)(fr:∀a∈A,Hold a=none):RS K H0 B0 H (σ.set i (some v)) (δ.set i (some (.ow d))) (z5W R i A):=by
 have hm:=h.mono e
 have up:∀{j:Nat} {w:V},j≠i->σ[j]? = some (some w)->(σ.set i (some v))[j]? = some (some w):=fun hj e=>by rw [bp (Ne.symm hj)];exact e
 have hA:∀r a,a∈R r->a∉A:=fun r a z z'=>by
  obtain⟨o,q,_⟩:=h.held r a z
  rw [fr a z']at q;cases q
 have mem:∀r a,a∈z5W R i A r->(r=i∧a∈A)∨(r≠i∧a∈R r):=fun r a z=>by
  by_cases hr:r=i
  ·subst hr;rw [z0C]at z;exact .inl ⟨rfl,z⟩
  ·rw [z0T hr]at z;exact .inr ⟨hr,z⟩
 refine⟨hm.keep,h.inB,by simp [h.len],fun r a z=>?_,fun r a z=>?_,fun r s a z z'=>?_,fun j d' z=>?_,fun j r' d' z=>?_,fun j d' z=>?_⟩
 ·rcases mem r a z with⟨_,z⟩ | ⟨_,z⟩
  ·exact h.keep.free (fr a z)
  ·exact h.new r a z
 ·rcases mem r a z with⟨_,z⟩ | ⟨_,z⟩
  ·exact t.held d a z
  ·exact hm.held r a z
 ·rcases mem r a z with⟨h1,z⟩ | ⟨h1,z⟩ <;> rcases mem s a z' with⟨h2,z'⟩ | ⟨h2,z'⟩
  ·rw [h1,h2]
  ·exact absurd z (hA s a z')
  ·exact absurd z' (hA r a z)
  ·exact h.disj r s a z z'
 ·rcases z1D z with⟨rfl,q,_⟩ | ⟨hj,q⟩
  ·cases q
  ·obtain⟨w,e1,r⟩:=h.sh j d' q
   refine⟨w,up hj e1,Rep.anti ?_ d' ((Rep.wide (C:=fun a=>a∈A) fr d' r).mono e)⟩
   rintro a (z | ⟨r,z⟩)
   ·exact .inl (.inl z)
   ·rcases mem r a z with⟨_,z⟩ | ⟨_,z⟩
    ·exact .inr z
    ·exact .inl (.inr ⟨r,z⟩)
 ·rcases z1D z with⟨rfl,q,_⟩ | ⟨hj,q⟩
  ·cases q
  ·obtain⟨w,e1,r⟩:=h.bo j r' d' q
   refine⟨w,up hj e1,Rep.anti ?_ d' ((Rep.wide (C:=fun a=>a∈A) fr d' r).mono e)⟩
   rintro a (z | ⟨s,hs,z⟩)
   ·exact .inl (.inl z)
   ·rcases mem s a z with⟨_,z⟩ | ⟨_,z⟩
    ·exact .inr z
    ·exact .inl (.inr ⟨s,hs,z⟩)
 ·rcases z1D z with⟨rfl,q,hl⟩ | ⟨hj,q⟩
  ·cases q
   rw [z0C]
   exact⟨v,by rw [cw];simp [←h.len,hl],t,nd⟩
  ·obtain⟨w,e1,t'⟩:=hm.ow j d' q
   rw [z0T hj]
   exact⟨w,up hj e1,t'⟩
def x0O(i:Nat)(δ:SS):SS:=match δ[i]? with
 |some (some (.ow d))=>δ.set i (some (.sh d))
 |_=>δ
theorem RS.frz(i:Nat)(h:RS K H0 B0 H σ δ R):∃R',RS K H0 B0 H σ (x0O i δ) R'∧∀r a,a∈R' r->a∈R r:=by
 unfold x0O
 split
 ·rename_i d e
  obtain⟨v,e1,t,nd⟩:=h.ow i d e
  refine⟨z5W R i [],?_,fun r a z=>?_⟩
  ·have mem:∀r a,a∈z5W R i [] r->r≠i∧a∈R r:=fun r a z=>by
    by_cases hr:r=i
    ·subst hr;rw [z0C]at z;cases z
    ·rw [z0T hr]at z;exact⟨hr,z⟩
   refine⟨h.keep,h.inB,by simp [h.len],fun r a z=>h.new r a (mem r a z).2,fun r a z=>h.held r a (mem r a z).2,fun r s a z z'=>h.disj r s a (mem r a z).2 (mem s a z').2,fun j d' z=>?_,fun j r' d' z=>?_,fun j d' z=>?_⟩
   ·rcases z1D z with⟨rfl,q,hl⟩ | ⟨hj,q⟩
    ·cases q
     refine⟨v,e1,t.rep d fun a ha=>?_⟩
     rintro (z | ⟨r,z⟩)
     ·obtain⟨o,q⟩:=h.inB a z
      rw [h.new j a ha]at q;cases q
     ·exact(mem r a z).1 (h.disj r j a (mem r a z).2 ha)
    ·obtain⟨w,e2,r⟩:=h.sh j d' q
     exact⟨w,e2,r.anti fun a z=>z.imp id fun⟨r,z⟩=>⟨r,(mem r a z).2⟩⟩
   ·rcases z1D z with⟨rfl,q,_⟩ | ⟨hj,q⟩
    ·cases q
    ·obtain⟨w,e2,r⟩:=h.bo j r' d' q
     exact⟨w,e2,r.anti fun a z=>z.imp id fun⟨s,hs,z⟩=>⟨s,hs,(mem s a z).2⟩⟩
   ·rcases z1D z with⟨rfl,q,_⟩ | ⟨hj,q⟩
    ·cases q
    ·rw [z0T hj]
     exact h.ow j d' q
  ·by_cases hr:r=i
   ·subst hr;rw [z0C]at z;cases z
   ·rw [z0T hr]at z;exact z
 ·exact⟨R,h,fun _ _ z=>z⟩
end
inductive Out where
 |nx (δ:SS) | bk (δ:SS) | ct (δ:SS) | rt (d:D) | rb (d:D) (δ:SS) | ex (c:Nat) (δ:SS)
abbrev XR:=Nat->St->Hp->Prop
abbrev noX:XR:=fun _ _ _=>False
def Ret(K:aa)(H0:Hp)(B0:Addr->Prop)(fr:Bool)(H:Hp)(d:D)(v:V):Prop:=
 Same H0 H∧(fr=true->∃A,Tree K H d v A∧A.Nodup∧∀a∈A,H0 a=none)∧(fr=false->Rep K H B0 d v)
def Aft(K:aa)(H0:Hp)(B0:Addr->Prop)(fr:Bool)(RX:XR)(R:Nat->List Addr)(H:Hp)(D:Ends):Out->Prop
 |.nx δ'=>∀σ' H' R',RS K H0 B0 H' σ' δ' R'->Stp R H R' H'->D.nx σ' H'
 |.bk δ'=>∀σ' H' R',RS K H0 B0 H' σ' δ' R'->Stp R H R' H'->D.bk σ' H'
 |.ct δ'=>∀σ' H' R',RS K H0 B0 H' σ' δ' R'->Stp R H R' H'->D.ct σ' H'
 |.rt d=>∀v H',Ret K H0 B0 fr H' d v->(∀a,H' a=none->H a=none)->D.rt v H'
 |.rb d δ'=>∀v σ' H' R' A2,RS K H0 B0 H' σ' δ' R'->Stp R H R' H'->Tree K H' d v A2->A2.Nodup->(∀a∈A2,H0 a=none∧∀r,a∉R' r)->D.rt v H'
 |.ex c δ'=>∀σ' H' R',RS K H0 B0 H' σ' δ' R'->Stp R H R' H'->RX c σ' H'
def tS(K:aa)(H0:Hp)(B0:Addr->Prop)(fr:Bool)(RX:XR)(g:SS->Option Out):TS:=fun D σ H=>∃δ R o,RS K H0 B0 H σ δ R∧g δ=some o∧Aft K H0 B0 fr RX R H D o
theorem Aft.back{K:aa}{H0:Hp}{B0:Addr->Prop}{fr:Bool}{RX:XR}{R R1:Nat->List Addr}{H H1:Hp}{D:Ends}{o:Out}(h:Aft K H0 B0 fr RX R H D o)(s:Stp R H R1 H1):Aft K H0 B0 fr RX R1 H1 D o:=by
 cases o with
 |nx δ'=>exact fun σ' H' R' r t=>h σ' H' R' r (s.trans t)
 |bk δ'=>exact fun σ' H' R' r t=>h σ' H' R' r (s.trans t)
 |ct δ'=>exact fun σ' H' R' r t=>h σ' H' R' r (s.trans t)
 |rt d=>exact fun v H' r t=>h v H' r fun a z=>s.there a (t a z)
 |rb d δ'=>exact fun v σ' H' R' A2 r t=>h v σ' H' R' A2 r (s.trans t)
 |ex c δ'=>exact fun σ' H' R' r t=>h σ' H' R' r (s.trans t)
theorem PS.imp{X:Cx}{st:Stmt}{t t':TS}(h:PS X st t)(w:∀D σ H,t' D σ H->t D σ H):PS X st t':=fun pins s σ H D I q=>h pins s σ H D I (w D σ H q)
theorem PSs.imp{X:Cx}{st:List Stmt}{t t':TS}(h:PSs X st t)(w:∀D σ H,t' D σ H->t D σ H):PSs X st t':=fun pins s σ H D I q=>h pins s σ H D I (w D σ H q)
section
variable{X:Cx}{H0:Hp}{B0:Addr->Prop}{fr:Bool}{RX:XR}{st:Stmt}{sts:List Stmt}{e:Expr}{pos:Pos}
def z0O(g h:SS->Option Out):SS->Option Out:=fun δ=>(g δ).bind fun o=>match o with
 |.nx δ'=>h δ'
 |o=>some o
def z2d:SS->Option Out:=fun δ=>some (.nx δ)
theorem z1h:PSs X [] (tS X.K H0 B0 fr RX z2d):=pss_nil.imp fun D σ H ⟨δ,R,o,rs,q,k⟩=>by
 cases q
 exact k σ H R rs (.refl R H)
theorem z0f{g h:SS->Option Out}(h1:PS X st (tS X.K H0 B0 fr RX g))(h2:PSs X sts (tS X.K H0 B0 fr RX h)):PSs X (st::sts) (tS X.K H0 B0 fr RX (z0O g h)):=(x0G h1 h2).imp fun D σ H ⟨δ,R,o,rs,q,k⟩=>by
 unfold z0O at q
 cases e:g δ with
 |none=>rw [e]at q;cases q
 |some o1=>
  rw [e]at q
  refine⟨δ,R,o1,rs,e,?_⟩
  cases o1 with
  |nx δ'=>
   have q':h δ'=some o:=q
   exact fun σ' H' R' rs' s'=>⟨δ',R',o,rs',q',k.back s'⟩
  |bk δ'=>cases q;exact k
  |ct δ'=>cases q;exact k
  |rt d=>cases q;exact k
  |rb d δ'=>cases q;exact k
  |ex c δ'=>cases q;exact k
theorem z0j{g:SS->Option Out}(h1:PS X st (tS X.K H0 B0 fr RX g)):PSs X [st] (tS X.K H0 B0 fr RX g):=pss_one h1
abbrev PAsg(X:Cx)(st:Stmt)(i:Nat)(te:TE):Prop:=PS X st (tAsg te (z2r i))
theorem PAsg.imp{i:Nat}{t t':TE}(h:PAsg X st i t)(w:∀σ H Q,t' σ H Q->t σ H Q):PAsg X st i t':=PS.imp h fun D σ H q=>w σ H _ q
theorem z0H{i:Nat}{x:Str}{te:TE}{pos':Pos}(hN:X.N.Nodup)(hi:X.N[i]? = some x)(hx:Loc X.env.scope x)(he:PE X e te)(hs:swapsWith e (some (.Name x pos')) pos.line X.env=pure false:=by rfl)(hf:X.fn x=true∨X.env.scope.names.lookup x=some .local:=by first | exact .inl rfl | exact .inr rfl | assumption):
  PAsg X (.Assign [.Name x pos'] e pos) i te:=ps_set hN hi hx he hs hf
def y5f(i:Nat)(f:DE):SS->Option Out:=fun δ=>(f (shV δ)).map fun d=>.nx (δ.set i (some (.sh d)))
def z7K(i:Nat)(f:DE):SS->Option Out:=fun δ=>(f (z0u δ)).bind fun d=>if d.imm=true then some (.nx (δ.set i (some (.sh d))))else none
def z5q(i:Nat)(f:DE):SS->Option Out:=fun δ=>(f (z0u δ)).map fun d=>.nx (δ.set i (some (.ow d)))
theorem z5a{i:Nat}{f:DE}(h:PAsg X st i (tD X.K f)):PS X st (tS X.K H0 B0 fr RX (y5f i f)):=PS.imp h fun D σ H ⟨δ,R,o,rs,q,k⟩=>by
 unfold y5f at q
 cases e:f (shV δ)with
 |none=>rw [e]at q;cases q
 |some d=>
  rw [e]at q
  cases q
  exact⟨_,shV δ,d,rs.inAll,rs.shr,e,fun v H' s r=>k _ H' R ((rs.mono s).setSh r) (.same s)⟩
theorem z1C{i:Nat}{f:DE}(h:PAsg X st i (tD X.K f)):PS X st (tS X.K H0 B0 fr RX (z7K i f)):=PS.imp h fun D σ H ⟨δ,R,o,rs,q,k⟩=>by
 unfold z7K at q
 cases e:f (z0u δ)with
 |none=>rw [e]at q;cases q
 |some d=>
  rw [e]at q
  have q':(if d.imm=true then some (Out.nx (δ.set i (some (.sh d))))else none)=some o:=q
  split at q'
  ·rename_i hi
   cases q'
   exact⟨noB,z0u δ,d,.no,rs.all,e,fun v H' s r=>k _ H' R ((rs.mono s).setSh (r.imm d hi)) (.same s)⟩
  ·cases q'
theorem z0W{i:Nat}{f:DE}(h:PAsg X st i (tN X.K f)):PS X st (tS X.K H0 B0 fr RX (z5q i f)):=PS.imp h fun D σ H ⟨δ,R,o,rs,q,k⟩=>by
 unfold z5q at q
 cases e:f (z0u δ)with
 |none=>rw [e]at q;cases q
 |some d=>
  rw [e]at q
  cases q
  refine⟨z0u δ,d,rs.all,e,fun v H' A s t nd fr'=>k _ H' (z5W R i A) (rs.setOw s t nd fr') ⟨fun a o h _=>s a o h,fun r a z=>?_,fun a z=>s.free z⟩⟩
  by_cases hr:r=i
  ·subst hr;rw [z0C]at z;exact .inr (fr' a z)
  ·rw [z0T hr]at z;exact .inl ⟨r,z⟩
def z3z(f:DE):SS->Option Out:=fun δ=>(f (z0u δ)).bind fun d=>if d.imm=true then some (.rt d)else none
def z8g(f:DE):SS->Option Out:=fun δ=>(f (z0u δ)).map .rt
def x1J(f:DE):SS->Option Out:=fun δ=>(f (shV δ)).map .rt
def y3Z(i:Nat):SS->Option Out:=fun δ=>match δ[i]? with
 |some (some (.ow d))=>some (.rt d)
 |_=>none
theorem z0I{f:DE}(h:PD X e f):PS X (.Return (some e) pos) (tS X.K H0 B0 fr RX (z3z f)):=PS.imp (y0I h) fun D σ H ⟨δ,R,o,rs,q,k⟩=>by
 unfold z3z at q
 cases e:f (z0u δ)with
 |none=>rw [e]at q;cases q
 |some d=>
  rw [e]at q
  have q':(if d.imm=true then some (Out.rt d)else none)=some o:=q
  split at q'
  ·rename_i hi
   cases q'
   exact⟨noB,z0u δ,d,.no,rs.all,e,fun v H' s r=>k v H' ⟨rs.keep.trans s,fun _=>⟨[],r.immTree d hi,bi,(fun a z=>nomatch z)⟩,fun _=>r.imm d hi⟩ fun a z=>s.free z⟩
  ·cases q'
theorem z1X{f:DE}(h:PN X e f):PS X (.Return (some e) pos) (tS X.K H0 B0 fr RX (z8g f)):=PS.imp (y0I h) fun D σ H ⟨δ,R,o,rs,q,k⟩=>by
 unfold z8g at q
 cases e:f (z0u δ)with
 |none=>rw [e]at q;cases q
 |some d=>
  rw [e]at q
  cases q
  exact⟨z0u δ,d,rs.all,e,fun v H' A s t nd fr'=>k v H' ⟨rs.keep.trans s,fun _=>⟨A,t,nd,fun a z=>rs.keep.free (fr' a z)⟩,fun _=>t.rep d fun a z=>rs.inB.fresh (rs.keep.free (fr' a z))⟩ fun a z=>s.free z⟩
theorem y0s{f:DE}(h:PD X e f):PS X (.Return (some e) pos) (tS X.K H0 B0 false RX (x1J f)):=PS.imp (y0I h) fun D σ H ⟨δ,R,o,rs,q,k⟩=>by
 unfold x1J at q
 cases e:f (shV δ)with
 |none=>rw [e]at q;cases q
 |some d=>
  rw [e]at q
  cases q
  exact⟨_,shV δ,d,rs.inAll,rs.shr,e,fun v H' s r=>k v H' ⟨rs.keep.trans s,(fun z=>nomatch z),fun _=>r.anti fun a z=>.inl z⟩ fun a z=>s.free z⟩
theorem z4u{i:Nat}(h:PE X e (y1u i)):PS X (.Return (some e) pos) (tS X.K H0 B0 fr RX (y3Z i)):=PS.imp (y0I h) fun D σ H ⟨δ,R,o,rs,q,k⟩=>by
 unfold y3Z at q
 split at q
 ·rename_i d e
  cases q
  obtain⟨v,e1,t,nd⟩:=rs.ow i d e
  exact⟨v,e1,k v H ⟨rs.keep,fun _=>⟨R i,t,nd,fun a z=>rs.new i a z⟩,fun _=>t.rep d fun a z=>rs.inB.fresh (rs.new i a z)⟩ fun a z=>z⟩
 ·cases q
def ifO(c:DS->Option Bool)(g h:SS->Option Out):SS->Option Out:=fun δ=>(c (z0u δ)).bind fun b=>if b=true then g δ else h δ
theorem z7L{c:Expr}{a b:List Stmt}{f:DS->Option Bool}{g h:SS->Option Out}(hc:PTD X c f)(ha:PSs X a (tS X.K H0 B0 fr RX g))(hb:PSs X b (tS X.K H0 B0 fr RX h)):PS X (.If c a b pos) (tS X.K H0 B0 fr RX (ifO f g h)):=PS.imp (ps_if hc ha hb) fun D σ H ⟨δ,R,o,rs,q,k⟩=>by
 unfold ifO at q
 cases e:f (z0u δ)with
 |none=>rw [e]at q;cases q
 |some b=>
  rw [e]at q
  have q':(if b=true then g δ else h δ)=some o:=q
  refine⟨noB,z0u δ,b,.no,rs.all,e,fun H' s=>?_⟩
  cases b with
  |true=>
   rw [if_pos rfl]at q'
   refine iteT ?_
   exact⟨δ,R,o,rs.mono s,q',k.back (.same s)⟩
  |false=>
   rw [if_neg ar]at q'
   refine iteF ?_
   exact⟨δ,R,o,rs.mono s,q',k.back (.same s)⟩
def frzO(i:Nat)(g:SS->Option Out):SS->Option Out:=fun δ=>g (x0O i δ)
theorem s_frz(i:Nat){g:SS->Option Out}(h:PS X st (tS X.K H0 B0 fr RX g)):PS X st (tS X.K H0 B0 fr RX (frzO i g)):=PS.imp h fun D σ H ⟨δ,R,o,rs,q,k⟩=>by
 obtain⟨R',rs',hs⟩:=rs.frz i
 exact⟨x0O i δ,R',o,rs',q,k.back ⟨fun a o h _=>h,fun r a z=>.inl ⟨r,hs r a z⟩,fun a z=>z⟩⟩
def z6j(i:Nat)(b:SS->Option Out):List D->SS->Option Out
 |[],δ=>some (.nx δ)
 |x::r,δ=>(b (δ.set i (some (.sh x)))).bind fun o=>match o with
  |.nx δ'=>z6j i b r δ'
  |.ct δ'=>z6j i b r δ'
  |.bk δ'=>some (.nx δ')
  |.rt d=>some (.rt d)
  |.rb d δ'=>some (.rb d δ')
  |.ex c δ'=>some (.ex c δ')
def z7R(i:Nat)(f:DS->Option (List D))(b:SS->Option Out):SS->Option Out:=fun δ=>(f (shV δ)).bind fun ds=>z6j i b ds δ
theorem Stp.keepB{K:aa}{R R':Nat->List Addr}{H H':Hp}{B:Addr->Prop}(s:Stp R H R' H')(hR:∀r a,a∈R r->B a)(hm:∀r a,a∈R r->∃o,H a=some o∧Mut (some o)):Keep K B H H':=by
 have kp:∀a o,H a=some o->¬ Mut (some o)->H' a=some o:=fun a o e n=>s.keep a o e fun r z=>by
  obtain⟨o',e',m⟩:=hm r a z
  rw [e]at e';cases e'
  exact n m
 refine⟨fun a xs n h=>s.keep a _ h fun r z=>n (hR r a z),fun a xs h=>?_,fun a xs h=>?_,fun a kvs n h=>s.keep a _ h fun r z=>n (hR r a z),fun a φ n h=>s.keep a _ h fun r z=>n (hR r a z),fun a _ _ _ n h=>s.keep a _ h fun r z=>n (hR r a z)⟩
 ·rcases h with (h | ⟨o,h⟩) | h
  ·exact .inl (.inl (kp a _ h fun z=>z))
  ·exact .inl (.inr ⟨o,kp a _ h fun z=>z⟩)
  ·exact .inr h
 ·rcases h with⟨o,h⟩ | h
  ·exact .inl ⟨o,kp a _ h fun z=>z⟩
  ·exact .inr h
theorem z4a{i:Nat}{x:Str}{px:Pos}{iter:Expr}{body:List Stmt}{f:DS->Option (List D)}{g:SS->Option Out}(hp:PassesOwn (model X.prog X.w) X.A X.env X.xe)(hc:X.calm=true)(hi:PID X (.Name x px) iter f)(hg:PG X (.Name x px) (z2r i))(hb:PSs X body (tS X.K H0 B0 fr RX g))
  (hs:∀x,foldedSetIterable iter X.env x=pure x:=by intro _;rfl):PS X (.For (.Name x px) iter body [] pos) (tS X.K H0 B0 fr RX (z7R i f g)):=PS.imp (y7k hp hc hi hg hb hs) fun D σ H ⟨δ,R,o,rs,q,k⟩=>by
 unfold z7R at q
 cases e:f (shV δ)with
 |none=>rw [e]at q;cases q
 |some ds=>
 rw [e]at q
 have q:z6j i g ds δ=some o:=q
 refine⟨_,shV δ,ds,rs.inAll,rs.shr,e,fun J H1 s1 itw=>?_⟩
 have rs1:=rs.mono s1
 have it:=itw (fun a=>H1 a=none) fun a z=>z
 refine⟨fun n m σ' H'=>m=ds.length - n∧n≤ds.length∧∃δ' R',RS X.K H0 B0 H' σ' δ' R'∧Stp R H1 R' H'∧z6j i g (ds.drop n) δ'=some o,⟨ds.length,by simp,bX _,δ,R,rs1,.refl R H1,q⟩,?_⟩
 rintro n m σ' H' ⟨rfl,hn,δ',R',rs',s',q'⟩
 have kp:Keep X.K (fun a=>(B0 a∨∃r,a∈R r)∨H1 a=none) H1 H':=s'.keepB (fun r a z=>.inl (.inr ⟨r,z⟩)) rs1.held
 by_cases hlt:n<ds.length
 ·have hx:ds.drop n=ds[n]::ds.drop (n+1):=bx hlt
  rw [hx]at q'
  unfold z6j at q'
  cases eb:g (δ'.set i (some (.sh ds[n])))with
  |none=>rw [eb]at q';cases q'
  |some ob=>
   rw [eb]at q'
   refine .inr ⟨it.go n H' kp hlt,fun σ2 H2=>n+1≤ds.length∧∃δ2 R2,RS X.K H0 B0 H2 σ2 δ2 R2∧Stp R H1 R2 H2∧z6j i g (ds.drop (n+1)) δ2=some o,fun σ2 H2 z=>⟨ds.length - (n+1),by omega,rfl,z⟩,fun xv H2 hy=>?_⟩
   obtain⟨s2,d,hd,rd⟩:=it.yld n H' xv H2 kp hy
   have hdi:d=ds[n]:=by
    have:=hd hlt
    rw [ac hlt]at this
    exact(Option.some.inj this).symm
   subst hdi
   have rd':Rep X.K H2 (fun a=>B0 a∨∃r,a∈R' r) ds[n] xv:=rd.anti fun a z=>by
    rcases z with z | ⟨r,z⟩
    ·exact .inl (.inl z)
    ·rcases s'.from' r a z with z | z
     ·exact .inl (.inr z)
     ·exact .inr z
   have rs2:=(rs'.mono s2).setSh (i:=i) rd'
   have st2:Stp R H1 R' H2:=s'.trans (.same s2)
   refine⟨_,R',ob,rs2,eb,?_⟩
   cases ob with
   |nx δ2=>
    have q2:z6j i g (ds.drop (n+1)) δ2=some o:=q'
    exact fun σ3 H3 R3 rs3 s3=>⟨hlt,δ2,R3,rs3,st2.trans s3,q2⟩
   |ct δ2=>
    have q2:z6j i g (ds.drop (n+1)) δ2=some o:=q'
    exact fun σ3 H3 R3 rs3 s3=>⟨hlt,δ2,R3,rs3,st2.trans s3,q2⟩
   |bk δ2=>
    cases q'
    exact fun σ3 H3 R3 rs3 s3=>k σ3 H3 R3 rs3 ((Stp.same s1).trans (st2.trans s3))
   |rt d=>
    cases q'
    exact k.back ((Stp.same s1).trans st2)
   |rb d δ2=>
    cases q'
    exact k.back ((Stp.same s1).trans st2)
   |ex c δ2=>
    cases q'
    exact k.back ((Stp.same s1).trans st2)
 ·have en:n=ds.length:=by omega
  subst en
  rw [ci]at q'
  cases q'
  exact .inl ⟨it.stop _ H' kp (ao _),k σ' H' R' rs' ((Stp.same s1).trans s')⟩
end
def z1s(np nl:Nat)(g:SS->Option Out):List D->Option D:=fun ds=>if ds.length=np then(match g (ds.map (fun d=>some (.sh d))++ak nl none)with
 |some (.rt d)=>some d
 |some (.nx _)=>some .non
 |_=>none)else none
theorem z6u{np nl:Nat}{g:SS->Option Out}{ds:List D}{d:D}(h:z1s np nl g ds=some d):ds.length=np:=by
 unfold z1s at h
 split at h
 ·assumption
 ·cases h
theorem z9h{K:aa}{H:Hp}{B:Addr->Prop}{ds:List D}{vs:List V}{N:List Str}{nl:Nat}(hB:InB B H)(r:Reps K H B ds vs)(hN:N.length=ds.length+nl):
  RS K H B H (z6X N vs) (ds.map (fun d=>some (.sh d))++ak nl none) (fun _=>[]):=by
 have hl:=r.length
 have get:∀{i:Nat} {x:SD},(ds.map (fun d=>some (SD.sh d))++ak nl none)[i]? = some (some x)->∃d,ds[i]? = some d∧x = .sh d:=fun {i x} e=>by
  by_cases hi:i<ds.length
  ·rw [bv (by simpa using hi),aN,ac hi]at e
   cases e
   exact⟨ds[i],ac hi,rfl⟩
  ·rw [bY (by simpa using hi),ca]at e
   split at e <;> cases e
 refine⟨.refl H,hB,?_,(fun _ _ z=>nomatch z),(fun _ _ z=>nomatch z),(fun _ _ _ z=>nomatch z),fun i d e=>?_,fun i r d e=>?_,fun i d e=>?_⟩
 ·unfold z6X
  simp
  omega
 ·obtain⟨d',e1,e2⟩:=get e
  cases e2
  obtain⟨v,e3,rv⟩:=r.get e1
  refine⟨v,?_,rv.anti fun a z=>z.elim id (fun⟨_,z⟩=>nomatch z)⟩
  unfold z6X
  have hi:i<vs.length:=(aX.mp e3).1
  rw [bv (by simpa using hi),aN,e3]
  rfl
 ·obtain⟨d',_,e2⟩:=get e
  cases e2
 ·obtain⟨d',_,e2⟩:=get e
  cases e2
section
variable{P:Program}{w:World}{K:aa}{mg:Str->Option Value}{base:Heap}
theorem fnN{x qual:Str}{st:Stmt}{f:Addr}{fd:FuncData}{N ps:List Str}{k np nl:Nat}{g:SS->Option Out}(F:Fun K x qual st f fd)(S:FnScope N ps (z0e st))(hnp:ps.length=np)(hN:N.length=np+nl)
  (hbody:∀(cdv:Value) (A:Around) (outer:List Env) (s:Shared) (H:Hp) (E:XK),Room k (A.deeper (envOfC qual (z0e st) s.heap.objs.size f cdv)) →
   PSs (y2F CX0 P w K mg base N qual (z0e st) f cdv A outer s H E).nox (z1q st) (tS K H noB true noX g)):FnOk P w K mg base CX0 (k+1) f fd ps (spN K (z1s np nl g)):=by
 refine F.ok S (fun vs H Q E h=>?_) fun cdv A outer s H vs Q E hr h=>?_
 ·obtain⟨ds,d,r,e,_⟩:=h
  rw [←r.length,z6u e,hnp]
 ·obtain⟨ds,d,r,e,kk⟩:=h
  refine⟨_,hbody cdv A outer s H E hr,?_⟩
  have hl:=z6u e
  unfold z1s at e
  rw [if_pos hl]at e
  have rs:=z9h (nl:=nl) .no r (N:=N) (by omega)
  split at e
  ·rename_i d' eg
   cases e
   exact⟨_,_,_,rs,eg,fun v H' z _=>by
    obtain⟨A',t,nd,fr⟩:=z.2.1 rfl
    exact kk v H' A' z.1 t nd fr⟩
  ·rename_i δ' eg
   cases e
   exact⟨_,_,_,rs,eg,fun σ' H' R' rs' _=>kk .non H' [] rs'.keep ⟨rfl,rfl⟩ bi (fun a z=>nomatch z)⟩
  ·cases e
theorem z2q{x qual:Str}{st:Stmt}{f:Addr}{fd:FuncData}{N ps:List Str}{k np nl:Nat}{g:SS->Option Out}(F:Fun K x qual st f fd)(hm:mg x=some (.ref f))(hb:Binds K fd ps [])(S:FnScope N ps (z0e st))(hnp:ps.length=np)(hN:N.length=np+nl)
  (hbody:∀(cdv:Value) (A:Around) (outer:List Env) (s:Shared) (H:Hp) (E:XK),Room k (A.deeper (envOfC qual (z0e st) s.heap.objs.size f cdv)) →
   PSs (y2F CX0 P w K mg base N qual (z0e st) f cdv A outer s H E).nox (z1q st) (tS K H noB true noX g)):DefOk P w K mg base (k+1) x (spN K (z1s np nl g)):=
 ⟨f,fd,ps,hm,F.kp,hb,fnN F S hnp hN hbody⟩
theorem defR{x qual:Str}{st:Stmt}{f:Addr}{fd:FuncData}{N ps:List Str}{k np nl:Nat}{g:SS->Option Out}(F:Fun K x qual st f fd)(hm:mg x=some (.ref f))(hb:Binds K fd ps [])(S:FnScope N ps (z0e st))(hnp:ps.length=np)(hN:N.length=np+nl)
  (hbody:∀(cdv:Value) (A:Around) (outer:List Env) (s:Shared) (H:Hp) (E:XK) (B:Addr->Prop),Room k (A.deeper (envOfC qual (z0e st) s.heap.objs.size f cdv)) →
   PSs (y2F CX0 P w K mg base N qual (z0e st) f cdv A outer s H E).nox (z1q st) (tS K H B false noX g)):DefOk P w K mg base (k+1) x (spR K (z1s np nl g)):=by
 refine⟨f,fd,ps,hm,F.kp,hb,F.ok S (fun vs H Q E h=>?_) fun cdv A outer s H vs Q E hr h=>?_⟩
 ·obtain⟨B,ds,d,_,r,e,_⟩:=h
  rw [←r.length,z6u e,hnp]
 ·obtain⟨B,ds,d,hB,r,e,kk⟩:=h
  refine⟨_,hbody cdv A outer s H E B hr,?_⟩
  have hl:=z6u e
  unfold z1s at e
  rw [if_pos hl]at e
  have rs:=z9h (nl:=nl) hB r (N:=N) (by omega)
  split at e
  ·rename_i d' eg
   cases e
   exact⟨_,_,_,rs,eg,fun v H' z _=>kk v H' z.1 (z.2.2 rfl)⟩
  ·rename_i δ' eg
   cases e
   exact⟨_,_,_,rs,eg,fun σ' H' R' rs' _=>kk .non H' rs'.keep rfl⟩
  ·cases e
end
end L2
namespace L2
open PySem PySem.Spec PyProof.Rows PySem.SeqAt
mutual
def toP:D->PyData
 |.non=>.none
 |.bl b=>.bool b
 |.int i=>.int i
 |.str x=>.str x
 |.lst ds=>.list (z4W ds)
 |.tup ds=>.tuple (z4W ds)
 |.scr ns=>.list (ns.map .int)
 |.dct _ _=>.dict []
 |.exc _=>.dict []
 |.obj _ _ _ _=>.dict []
 |.cel _ _=>.dict []
def z4W:List D->List PyData
 |[]=>[]
 |d::ds=>toP d::z4W ds
end
theorem z8p{h:Heap}:∀(ns:List Int) {us:List Value},Vals (ns.map V.int) us->∃as,ReadsAll h us (ns.map .int) as
 |[],_,.nil=>⟨_,.nil⟩
 |n::ns,_,.cons r t=>by
  obtain⟨tk,rfl⟩:=r
  obtain⟨as,ra⟩:=z8p (h:=h) ns t
  exact⟨_,.cons (.int n tk) ra⟩
section
variable{X:Cx}{pins:List (Addr×Obj)}{σ:St}{H:Hp}{s:Shared}{B:Addr->Prop}
mutual
theorem z0Q(I:Inv X pins σ H s):∀(d:D) {v:V} {u:Value},(toP d).canLay0=true->Rep X.K H B d v->RelV v u->∃as,Reads s.heap u (toP d) as
 |.non,_,_,_,h,r=>by cases h;cases r;exact⟨_,.none⟩
 |.bl b,_,_,_,h,r=>by cases h;cases r;exact⟨_,.bool b⟩
 |.int i,_,_,_,h,r=>by cases h;obtain⟨t,rfl⟩:=r;exact⟨_,.int i t⟩
 |.str x,_,_,_,h,r=>by cases h;obtain⟨t,rfl⟩:=r;exact⟨_,.str x t⟩
 |.lst ds,_,_,hc,h,r=>by
  unfold Rep at h
  obtain⟨a,xs,rfl,_,hq,rs⟩:=h
  cases r
  obtain⟨its,rv,⟨o,n,e,c,_,dt⟩,_⟩:=I.list (SqL.of hq)
  have hc':PyData.canLayAll0 (z4W ds)=true:=by unfold toP PyData.canLay0 at hc;exact hc
  obtain⟨as,ra⟩:=z5z I ds hc' rs rv
  unfold toP
  exact⟨_,.list e c dt (by simpa using ra)⟩
 |.tup ds,_,_,hc,h,r=>by
  unfold Rep at h
  obtain⟨a,xs,rfl,hq,rs⟩:=h
  cases r
  obtain⟨its,rv,⟨o,e,c,n,dt⟩,_⟩:=I.tuple hq
  have hc':PyData.canLayAll0 (z4W ds)=true:=by unfold toP PyData.canLay0 at hc;exact hc
  obtain⟨as,ra⟩:=z5z I ds hc' rs rv
  unfold toP
  exact⟨_,.tuple e c dt (by simpa using ra)⟩
 |.scr ns,_,_,hc,h,r=>by
  unfold Rep at h
  obtain⟨a,rfl,hq⟩:=h
  cases r
  obtain⟨its,rv,⟨o,n,e,c,_,dt⟩,_⟩:=I.list hq.sq
  unfold toP
  obtain⟨as,ra⟩:=z8p (h:=s.heap) ns rv
  exact⟨_,.list e c dt (by simpa using ra)⟩
 |.dct _ _,_,_,hc,_,_=>by unfold toP PyData.canLay0 at hc;cases hc
 |.exc _,_,_,hc,_,_=>by unfold toP PyData.canLay0 at hc;cases hc
 |.obj _ _ _ _,_,_,hc,_,_=>by unfold toP PyData.canLay0 at hc;cases hc
 |.cel _ _,_,_,hc,_,_=>by unfold toP PyData.canLay0 at hc;cases hc
theorem z5z(I:Inv X pins σ H s):∀(ds:List D) {xs:List V} {us:List Value},PyData.canLayAll0 (z4W ds)=true->Reps X.K H B ds xs->Vals xs us->∃as,ReadsAll s.heap us (z4W ds) as
 |[],_,_,_,h,r=>by
  unfold Reps at h
  subst h
  cases r
  exact⟨_,.nil⟩
 |d::ds,_,_,hc,h,r=>by
  unfold Reps at h
  obtain⟨x,rr,rfl,h1,h2⟩:=h
  unfold z4W PyData.canLayAll0 at hc
  rw [aH]at hc
  cases r with
  |cons r1 r2=>
   obtain⟨as,ra⟩:=z0Q I d hc.1 h1 r1
   obtain⟨bs,rb⟩:=z5z I ds hc.2 h2 r2
   unfold z4W
   exact⟨_,.cons ra rb⟩
end
end
def okP(d:D):Bool:=(toP d).canLay0&&decide ((toP d).depth≤60)
def eqD(x y:D):Option D:=if(okP x&&okP y)=true then some (.bl (PyData.eqv (toP x) (toP y)))else none
def neD(x y:D):Option D:=if(okP x&&okP y)=true then some (.bl (!PyData.eqv (toP x) (toP y)))else none
def y6Q(x:D):D->Option Bool
 |.lst ds=>if(okP x&&okP (.lst ds))=true then some (ds.any fun y=>PyData.eqv (toP y) (toP x))else none
 |.tup ds=>if(okP x&&okP (.tup ds))=true then some (ds.any fun y=>PyData.eqv (toP y) (toP x))else none
 |_=>none
def inD(x y:D):Option D:=(y6Q x y).map .bl
def y6L(x y:D):Option D:=(y6Q x y).map fun b=>.bl (!b)
def rEqD(K:aa):R2:=fun x y H Q=>∃B dx dy,Rep K H B dx x∧Rep K H B dy y∧okP dx=true∧okP dy=true∧Q (.bl (PyData.eqv (toP dx) (toP dy))) H
def rNeD(K:aa):R2:=fun x y H Q=>∃B dx dy,Rep K H B dx x∧Rep K H B dy y∧okP dx=true∧okP dy=true∧Q (.bl (!PyData.eqv (toP dx) (toP dy))) H
theorem z0t{d:D}(h:okP d=true):(toP d).canLay0=true∧(toP d).depth≤60:=by
 unfold okP at h
 rw [aH,decide_eq_true_eq]at h
 exact h
section
variable{X:Cx}
theorem x2l(hu:X.A.units+64<cLine):OpR X (compareOp .Eq) (rEqD X.K):=by
 intro pins s σ H x y v u Q I rx ry h
 obtain⟨B,dx,dy,r1,r2,o1,o2,q⟩:=h
 obtain⟨as,ra⟩:=z0Q I dx (z0t o1).1 r1 rx
 obtain⟨bs,rb⟩:=z0Q I dy (z0t o2).1 r2 ry
 exact compareEq_reads ra rb (z0t o1).1 (z0t o2).1 (by have:=(z0t o1).2;omega) ⟨.bl _,H,I,rfl,q⟩
theorem op_neD(hu:X.A.units+64<cLine):OpR X (compareOp .NotEq) (rNeD X.K):=by
 intro pins s σ H x y v u Q I rx ry h
 obtain⟨B,dx,dy,r1,r2,o1,o2,q⟩:=h
 obtain⟨as,ra⟩:=z0Q I dx (z0t o1).1 r1 rx
 obtain⟨bs,rb⟩:=z0Q I dy (z0t o2).1 r2 ry
 exact compareNe_reads ra rb (z0t o1).1 (z0t o2).1 (by have:=(z0t o1).2;omega) ⟨.bl _,H,I,rfl,q⟩
theorem o2_eq{K:aa}:Op2 K (rEqD K) eqD:=by
 intro H B dx dy d x y Q hB hx hy q k
 unfold eqD at q
 split at q
 ·rename_i h
  rw [aH]at h
  cases q
  exact⟨B,dx,dy,hx,hy,h.1,h.2,k _ H (.refl H) rfl⟩
 ·cases q
theorem o2_ne{K:aa}:Op2 K (rNeD K) neD:=by
 intro H B dx dy d x y Q hB hx hy q k
 unfold neD at q
 split at q
 ·rename_i h
  rw [aH]at h
  cases q
  exact⟨B,dx,dy,hx,hy,h.1,h.2,k _ H (.refl H) rfl⟩
 ·cases q
theorem z5h(p:PyData->Bool):∀ds:List D,(z4W ds).any p=ds.any fun y=>p (toP y)
 |[]=>rfl
 |d::ds=>by unfold z4W;rw [cK,cK,z5h p ds]
def rInD(K:aa)(neg:Bool):R2:=fun x y H Q=>∃B dx dy b,Rep K H B dx x∧Rep K H B dy y∧y6Q dx dy=some b∧Q (.bl (if neg then !b else b)) H
theorem op_inD(hu:X.A.units+64<cLine):OpR X (compareOp .In) (rInD X.K false):=by
 intro pins s σ H x y v u Q I rx ry h
 obtain⟨B,dx,dy,b,r1,r2,o,q⟩:=h
 unfold y6Q at o
 split at o
 ·split at o
  ·rename_i ds h
   rw [aH]at h
   cases o
   obtain⟨as,ra⟩:=z0Q I dx (z0t h.1).1 r1 rx
   obtain⟨bs,rb⟩:=z0Q I _ (z0t h.2).1 r2 ry
   have hc:=(z0t h.2).1
   unfold toP at rb hc
   unfold PyData.canLay0 at hc
   refine in_list_reads rb ra hc (z0t h.1).1 (by have:=(z0t h.1).2;omega) ?_
   rw [z5h]
   exact⟨.bl _,H,I,rfl,q⟩
  ·cases o
 ·split at o
  ·rename_i ds h
   rw [aH]at h
   cases o
   obtain⟨as,ra⟩:=z0Q I dx (z0t h.1).1 r1 rx
   obtain⟨bs,rb⟩:=z0Q I _ (z0t h.2).1 r2 ry
   have hc:=(z0t h.2).1
   unfold toP at rb hc
   unfold PyData.canLay0 at hc
   refine in_tuple_reads rb ra hc (z0t h.1).1 (by have:=(z0t h.1).2;omega) ?_
   rw [z5h]
   exact⟨.bl _,H,I,rfl,q⟩
  ·cases o
 ·cases o
theorem op_ninD(hu:X.A.units+64<cLine):OpR X (compareOp .NotIn) (rInD X.K true):=by
 intro pins s σ H x y v u Q I rx ry h
 obtain⟨B,dx,dy,b,r1,r2,o,q⟩:=h
 unfold y6Q at o
 split at o
 ·split at o
  ·rename_i ds h
   rw [aH]at h
   cases o
   obtain⟨as,ra⟩:=z0Q I dx (z0t h.1).1 r1 rx
   obtain⟨bs,rb⟩:=z0Q I _ (z0t h.2).1 r2 ry
   have hc:=(z0t h.2).1
   unfold toP at rb hc
   unfold PyData.canLay0 at hc
   refine notIn_list_reads rb ra hc (z0t h.1).1 (by have:=(z0t h.1).2;omega) ?_
   rw [z5h]
   exact⟨.bl _,H,I,rfl,q⟩
  ·cases o
 ·split at o
  ·rename_i ds h
   rw [aH]at h
   cases o
   obtain⟨as,ra⟩:=z0Q I dx (z0t h.1).1 r1 rx
   obtain⟨bs,rb⟩:=z0Q I _ (z0t h.2).1 r2 ry
   have hc:=(z0t h.2).1
   unfold toP at rb hc
   unfold PyData.canLay0 at hc
   refine notIn_tuple_reads rb ra hc (z0t h.1).1 (by have:=(z0t h.1).2;omega) ?_
   rw [z5h]
   exact⟨.bl _,H,I,rfl,q⟩
  ·cases o
 ·cases o
theorem o2_in{K:aa}:Op2 K (rInD K false) inD:=by
 intro H B dx dy d x y Q hB hx hy q k
 unfold inD at q
 cases e:y6Q dx dy with
 |none=>rw [e]at q;cases q
 |some b=>
  rw [e]at q
  cases q
  exact⟨B,dx,dy,b,hx,hy,e,k _ H (.refl H) rfl⟩
theorem o2_nin{K:aa}:Op2 K (rInD K true) y6L:=by
 intro H B dx dy d x y Q hB hx hy q k
 unfold y6L at q
 cases e:y6Q dx dy with
 |none=>rw [e]at q;cases q
 |some b=>
  rw [e]at q
  cases q
  exact⟨B,dx,dy,b,hx,hy,e,k _ H (.refl H) rfl⟩
def OpA(K:aa)(r:List V->Hp->VK->Prop)(F:List D->Option D):Prop:=∀(H:Hp) (B:Addr->Prop) (ds:List D) (d:D) (vs:List V) (Q:VK),InB B H->Reps K H B ds vs->F ds=some d->(∀v H',Same H H'->Rep K H' B d v->Q v H')->r vs H Q
def OpL(K:aa)(r:List V->Hp->VK->Prop)(F:List D->Option (List D)):Prop:=∀(H:Hp) (B:Addr->Prop) (ds es:List D) (vs:List V) (Q:VK),InB B H->Reps K H B ds vs->F ds=some es →
 (∀a xs H',Same H H'->H a=none->H' a=some (.lst xs)->Reps K H' B es xs->Q (.ref a) H')->r vs H Q
def z2S(F:List D->Option (List D))(fl:List DE):DS->Option (List D):=fun δ=>(z0o fl δ).bind F
variable{x:Str}{bid T:String}{r:List V->Hp->VK->Prop}{e:Expr}{es:List Expr}{p pos:Pos}{fl:List DE}
theorem callA{F:List D->Option D}(ho:OpA X.K r F)(σ:St)(H:Hp)(Q:VK)(h:tD X.K (z0i F fl) σ H Q):tCB r (tDs X.K (z0o fl)) σ H Q:=by
 obtain⟨B,δ,d,hB,S,q,k⟩:=h
 obtain⟨ds,e1,e2⟩:=z5x q
 exact⟨B,δ,ds,hB,S,e1,fun vs H1 s1 r1=>ho H1 B ds d vs Q (hB.mono s1) r1 e2 fun v H' s' rv=>k v H' (s1.trans s') rv⟩
theorem callL{F:List D->Option (List D)}(ho:OpL X.K r F)(σ:St)(H:Hp)(Q:VK)(h:tF X.K (z2S F fl) σ H Q):tCB r (tDs X.K (z0o fl)) σ H Q:=by
 obtain⟨B,δ,d,hB,S,q,k⟩:=h
 unfold z2S at q
 cases e1:z0o fl δ with
 |none=>rw [e1]at q;cases q
 |some ds=>
  rw [e1]at q
  exact⟨B,δ,ds,hB,S,e1,fun vs H1 s1 r1=>ho H1 B ds d vs Q (hB.mono s1) r1 q fun a xs H' s' hn ha rv=>k a xs H' (s1.trans s') (s1.free hn) ha rv⟩
theorem z2s{F:List D->Option D}(hc:z4n X (.builtin bid) r)(hD:OpA X.K r F)(hg:Gl X x)(hm:X.mg x=none)(hv:bootBuiltins x=some (.builtin bid))(ha:PAD X (e::es) fl)(hn:x ≠ "__name__" := by decide)(hdb:(x==("__debug__" : Str))=false:=by decide)
  (he:starEach (e::es) X.env=(false,eval e X.env)::starEach es X.env:=by rfl) (hpl:(backTo pos (starEach es X.env)).any (·.1)=false:=by rfl):PD X (.Call (.Name x p) (e::es) [] pos) (z0i F fl):=
 (z6z hc hg hm hv ha hn hdb he hpl).imp (callA hD)
theorem x0P{F:List D->Option (List D)}(hc:z4n X (.type T) r)(hD:OpL X.K r F)(hg:Gl X x)(hm:X.mg x=none)(hv:bootBuiltins x=some (.type T))(ha:PAD X (e::es) fl)(hn:x ≠ "__name__" := by decide)(hdb:(x==("__debug__" : Str))=false:=by decide)
  (he:starEach (e::es) X.env=(false,eval e X.env)::starEach es X.env:=by rfl) (hpl:(backTo pos (starEach es X.env)).any (·.1)=false:=by rfl):PF X (.Call (.Name x p) (e::es) [] pos) (z2S F fl):=
 (y5N hc hg hm hv ha hn hdb he hpl).imp (callL hD)
theorem z3w{K:aa}{H:Hp}{B:Addr->Prop}{d:D}{vs:List V}(h:Reps K H B [d] vs):∃v,vs=[v]∧Rep K H B d v:=by
 unfold Reps at h
 obtain⟨x,r,rfl,h1,h2⟩:=h
 unfold Reps at h2
 subst h2
 exact⟨x,rfl,h1⟩
theorem reps2{K:aa}{H:Hp}{B:Addr->Prop}{d e:D}{vs:List V}(h:Reps K H B [d,e] vs):∃v u,vs=[v,u]∧Rep K H B d v∧Rep K H B e u:=by
 unfold Reps at h
 obtain⟨x,r,rfl,h1,h2⟩:=h
 obtain⟨u,rfl,h3⟩:=z3w h2
 exact⟨x,u,rfl,h1,h3⟩
def z1z:List D->Option D
 |[.lst ds]=>some (.int ds.length)
 |[.tup ds]=>some (.int ds.length)
 |[.scr ns]=>some (.int ns.length)
 |_=>none
theorem oa_len{K:aa}:OpA K (fun xs H Q=>∃x n,xs=[x]∧LenV K x H n∧Q (.int n) H) z1z:=by
 intro H B ds d vs Q hB hr q k
 unfold z1z at q
 split at q
 ·cases q
  obtain⟨v,rfl,r⟩:=z3w hr
  unfold Rep at r
  obtain⟨a,xs,rfl,_,h,rs⟩:=r
  refine⟨.ref a,xs.length,rfl,.inl ⟨xs,SqL.of h,rfl⟩,k _ H (.refl H) ?_⟩
  show V.int _=V.int _
  rw [rs.length]
 ·cases q
  obtain⟨v,rfl,r⟩:=z3w hr
  unfold Rep at r
  obtain⟨a,xs,rfl,h,rs⟩:=r
  refine⟨.ref a,xs.length,rfl,.inr ⟨xs,h,rfl⟩,k _ H (.refl H) ?_⟩
  show V.int _=V.int _
  rw [rs.length]
 ·cases q
  obtain⟨v,rfl,r⟩:=z3w hr
  unfold Rep at r
  obtain⟨a,rfl,h⟩:=r
  exact⟨.ref a,_,rfl,.inl ⟨_,h.sq,(am ..).symm⟩,k _ H (.refl H) rfl⟩
 ·cases q
theorem z0B{f:DE}(hg:Gl X "len")(hm:X.mg "len" = none)(h:PD X e f)(he:starEach [e] X.env=[(false,eval e X.env)]:=by rfl):PD X (.Call (.Name "len" p) [e] [] pos) (z0i z1z [f]):=
 z2s x0Z oa_len hg hm PySem.boot_len (z0a h z0c he) (by decide) (by decide) he rfl
def z6h:List D->Option (List Bool)
 |[]=>some []
 |.bl b::r=>(z6h r).map (b :: ·)
 |_=>none
def z1A:List D->Option (List Int)
 |[]=>some []
 |.int i::r=>(z1A r).map (i :: ·)
 |_=>none
theorem z5F{K:aa}{H:Hp}{B:Addr->Prop}:∀{ds:List D} {bs:List Bool} {xs:List V},z6h ds=some bs->Reps K H B ds xs->xs=bs.map V.bl
 |[],_,_,e,h=>by cases e;unfold Reps at h;exact h
 |.bl b::r,bs,xs,e,h=>by
  unfold z6h at e
  cases q:z6h r with
  |none=>rw [q]at e;cases e
  |some cs=>
   rw [q]at e
   cases e
   unfold Reps at h
   obtain⟨x,r',rfl,h1,h2⟩:=h
   rw [z5F q h2,show x=V.bl b from h1]
   rfl
 |.non::_,_,_,e,_=>nomatch e
 |.int _::_,_,_,e,_=>nomatch e
 |.str _::_,_,_,e,_=>nomatch e
 |.lst _::_,_,_,e,_=>nomatch e
 |.tup _::_,_,_,e,_=>nomatch e
 |.dct _ _::_,_,_,e,_=>nomatch e
 |.exc _::_,_,_,e,_=>nomatch e
 |.obj _ _ _ _::_,_,_,e,_=>nomatch e
 |.cel _ _::_,_,_,e,_=>nomatch e
 |.scr _::_,_,_,e,_=>nomatch e
theorem z3P{K:aa}{H:Hp}{B:Addr->Prop}:∀{ds:List D} {bs:List Int} {xs:List V},z1A ds=some bs->Reps K H B ds xs->xs=bs.map V.int
 |[],_,_,e,h=>by cases e;unfold Reps at h;exact h
 |.int b::r,bs,xs,e,h=>by
  unfold z1A at e
  cases q:z1A r with
  |none=>rw [q]at e;cases e
  |some cs=>
   rw [q]at e
   cases e
   unfold Reps at h
   obtain⟨x,r',rfl,h1,h2⟩:=h
   rw [z3P q h2,show x=V.int b from h1]
   rfl
 |.non::_,_,_,e,_=>nomatch e
 |.bl _::_,_,_,e,_=>nomatch e
 |.str _::_,_,_,e,_=>nomatch e
 |.lst _::_,_,_,e,_=>nomatch e
 |.tup _::_,_,_,e,_=>nomatch e
 |.dct _ _::_,_,_,e,_=>nomatch e
 |.exc _::_,_,_,e,_=>nomatch e
 |.obj _ _ _ _::_,_,_,e,_=>nomatch e
 |.cel _ _::_,_,_,e,_=>nomatch e
 |.scr _::_,_,_,e,_=>nomatch e
theorem z9J:∀{bs:List Bool} {us:List Value},Vals (bs.map V.bl) us->PyProof.Rows.LSm.BoolsAre us bs
 |[],_,.nil=>.nil
 |b::bs,_,.cons r t=>by
  cases r
  exact .cons b (z9J t)
theorem y7b(hc:X.calm=true):z4n X (.builtin "all") (fun xs H Q=>∃(p:Addr) (bs:List Bool),xs=[.ref p]∧SqL X.K H p (bs.map V.bl)∧Q (.bl (bs.all (fun b=>b))) H):=by
 intro pins s σ H xs us Q I r h
 obtain⟨p,bs,rfl,hq,q⟩:=h
 obtain⟨u,rfl,ru⟩:=z7T r
 cases ru
 obtain⟨its,rv,pl,hz⟩:=I.list hq
 have hl:=pl.isList
 have hb:=z9J rv
 have hlt:p<s.heap.objs.size:=by obtain⟨_,e,_⟩:=hl;exact Heap.lt_size e
 refine call_all_walk (wpAny_pyIter_list hl ?_)
 refine⟨s.heap.objs.size,[s.heap.objs.size,p],[s.heap.objs.size],its.toArray.size,_,_,fun i=>(bs[i]?).getD true,rfl,Walks.list (A:=X.A.in1) (I.ok.hd hc) _ p (aC hlt) its.toArray,
  ⟨⟨_,Heap.get?_push_size _ rfl,rfl,rfl⟩,hl.push _⟩,fun i v s' Q' E' hP hQ=>?_,fun h' tk hk=>?_⟩
 ·obtain⟨b,e,rfl⟩:=hb.get i v (by simpa using hP)
  simp only [e,cY]at hQ
  exact wpAny_truthy_bool hQ
 ·have e:((ad its.toArray.size).all fun i=>(bs[i]?).getD true)=bs.all (fun b=>b):=by
   rw [aD,hb.length];exact LSm.range_all bs
  rw [e]
  exact⟨.bl _,H,I.kept (LSm.kept_iter hk),rfl,q⟩
theorem y9l(hc:X.calm=true):z4n X (.builtin "any") (fun xs H Q=>∃(p:Addr) (bs:List Bool),xs=[.ref p]∧SqL X.K H p (bs.map V.bl)∧Q (.bl (bs.any (fun b=>b))) H):=by
 intro pins s σ H xs us Q I r h
 obtain⟨p,bs,rfl,hq,q⟩:=h
 obtain⟨u,rfl,ru⟩:=z7T r
 cases ru
 obtain⟨its,rv,pl,hz⟩:=I.list hq
 have hl:=pl.isList
 have hb:=z9J rv
 have hlt:p<s.heap.objs.size:=by obtain⟨_,e,_⟩:=hl;exact Heap.lt_size e
 refine call_any_walk (wpAny_pyIter_list hl ?_)
 refine⟨s.heap.objs.size,[s.heap.objs.size,p],[s.heap.objs.size],its.toArray.size,_,_,fun i=>(bs[i]?).getD false,rfl,Walks.list (A:=X.A.in1) (I.ok.hd hc) _ p (aC hlt) its.toArray,
  ⟨⟨_,Heap.get?_push_size _ rfl,rfl,rfl⟩,hl.push _⟩,fun i v s' Q' E' hP hQ=>?_,fun h' tk hk=>?_⟩
 ·obtain⟨b,e,rfl⟩:=hb.get i v (by simpa using hP)
  simp only [e,cY]at hQ
  exact wpAny_truthy_bool hQ
 ·have e:((ad its.toArray.size).any fun i=>(bs[i]?).getD false)=bs.any (fun b=>b):=by
   rw [aD,hb.length];exact LSm.range_any bs
  rw [e]
  exact⟨.bl _,H,I.kept (LSm.kept_iter hk),rfl,q⟩
theorem y7P(hc:X.calm=true):z4n X (.builtin "sum") (fun xs H Q=>∃(p:Addr) (ns:List Int),xs=[.ref p]∧SqL X.K H p (ns.map V.int)∧Q (.int ns.sum) H):=by
 intro pins s σ H xs us Q I r h
 obtain⟨p,ns,rfl,hq,q⟩:=h
 obtain⟨u,rfl,ru⟩:=z7T r
 cases ru
 obtain⟨its,rv,pl,hz⟩:=I.list hq
 have hi:=z4k rv
 obtain⟨xs,hx⟩:=hi.allInts.items
 have hl':s.heap.IsList p (intItems xs):=hx ▸ pl.isList
 refine sum_intListG (I.ok.hd hc) hl' fun h' tk t' hk=>?_
 have e1:ns=xs.toList.map (·.1):=by
  rw [←nums_intItems,←hx]
  exact(show numsOf its.toArray.toList=ns from hi.numsOf).symm
 have e2:preSum (numAt xs) xs.size=ns.sum:=by
  rw [preSum_eq,eZ (by simp),e1]
 rw [e2]
 exact⟨.int _,H,I.kept hk,⟨_,rfl⟩,q⟩
def x1o:List D->Option D
 |[.lst ds]=>(z6h ds).map fun bs=>.bl (bs.all (fun b=>b))
 |_=>none
def anyF:List D->Option D
 |[.lst ds]=>(z6h ds).map fun bs=>.bl (bs.any (fun b=>b))
 |_=>none
def y5q:List D->Option D
 |[.lst ds]=>(z1A ds).map fun ns=>.int ns.sum
 |_=>none
theorem oa_all{K:aa}:OpA K (fun xs H Q=>∃(p:Addr) (bs:List Bool),xs=[.ref p]∧SqL K H p (bs.map V.bl)∧Q (.bl (bs.all (fun b=>b))) H) x1o:=by
 intro H B ds d vs Q hB hr q k
 unfold x1o at q
 split at q
 ·rename_i es
  cases e:z6h es with
  |none=>rw [e]at q;cases q
  |some bs=>
   rw [e]at q
   cases q
   obtain⟨v,rfl,r⟩:=z3w hr
   unfold Rep at r
   obtain⟨a,xs,rfl,_,h,rs⟩:=r
   rw [z5F e rs]at h
   exact⟨a,bs,rfl,SqL.of h,k _ H (.refl H) rfl⟩
 ·cases q
theorem oa_any{K:aa}:OpA K (fun xs H Q=>∃(p:Addr) (bs:List Bool),xs=[.ref p]∧SqL K H p (bs.map V.bl)∧Q (.bl (bs.any (fun b=>b))) H) anyF:=by
 intro H B ds d vs Q hB hr q k
 unfold anyF at q
 split at q
 ·rename_i es
  cases e:z6h es with
  |none=>rw [e]at q;cases q
  |some bs=>
   rw [e]at q
   cases q
   obtain⟨v,rfl,r⟩:=z3w hr
   unfold Rep at r
   obtain⟨a,xs,rfl,_,h,rs⟩:=r
   rw [z5F e rs]at h
   exact⟨a,bs,rfl,SqL.of h,k _ H (.refl H) rfl⟩
 ·cases q
theorem oa_sum{K:aa}:OpA K (fun xs H Q=>∃(p:Addr) (ns:List Int),xs=[.ref p]∧SqL K H p (ns.map V.int)∧Q (.int ns.sum) H) y5q:=by
 intro H B ds d vs Q hB hr q k
 unfold y5q at q
 split at q
 ·rename_i es
  cases e:z1A es with
  |none=>rw [e]at q;cases q
  |some bs=>
   rw [e]at q
   cases q
   obtain⟨v,rfl,r⟩:=z3w hr
   unfold Rep at r
   obtain⟨a,xs,rfl,_,h,rs⟩:=r
   rw [z3P e rs]at h
   exact⟨a,bs,rfl,SqL.of h,k _ H (.refl H) rfl⟩
 ·cases q
theorem y3h{f:DE}(hc:X.calm=true)(hg:Gl X "all")(hm:X.mg "all" = none)(h:PD X e f)(he:starEach [e] X.env=[(false,eval e X.env)]:=by rfl):PD X (.Call (.Name "all" p) [e] [] pos) (z0i x1o [f]):=
 z2s (y7b hc) oa_all hg hm PyProof.Rows.Boot.«all» (z0a h z0c he) (by decide) (by decide) he rfl
theorem x3B{f:DE}(hc:X.calm=true)(hg:Gl X "any")(hm:X.mg "any" = none)(h:PD X e f)(he:starEach [e] X.env=[(false,eval e X.env)]:=by rfl):PD X (.Call (.Name "any" p) [e] [] pos) (z0i anyF [f]):=
 z2s (y9l hc) oa_any hg hm PyProof.Rows.Boot.«any» (z0a h z0c he) (by decide) (by decide) he rfl
theorem y0p{f:DE}(hc:X.calm=true)(hg:Gl X "sum")(hm:X.mg "sum" = none)(h:PD X e f)(he:starEach [e] X.env=[(false,eval e X.env)]:=by rfl):PD X (.Call (.Name "sum" p) [e] [] pos) (z0i y5q [f]):=
 z2s (y7P hc) oa_sum hg hm boot_sum (z0a h z0c he) (by decide) (by decide) he rfl
def z9B:List D->Option (List D)
 |[.lst ds]=>some ds
 |[.tup ds]=>some ds
 |[.scr ns]=>some (ns.map .int)
 |_=>none
theorem ol_list{K:aa}:OpL K (fun xs H Q=>∃p ys,xs=[.ref p]∧(SqL K H p ys∨SqT K H p ys)∧∀l,H l=none->Q (.ref l) (upd H l (.lst ys))) z9B:=by
 intro H B ds es vs Q hB hr q k
 unfold z9B at q
 split at q
 ·cases q
  obtain⟨v,rfl,r⟩:=z3w hr
  unfold Rep at r
  obtain⟨a,xs,rfl,_,h,rs⟩:=r
  exact⟨a,xs,rfl,.inl (SqL.of h),fun l hl=>k l xs _ (z0n hl) hl z0m (rs.mono (z0n hl))⟩
 ·cases q
  obtain⟨v,rfl,r⟩:=z3w hr
  unfold Rep at r
  obtain⟨a,xs,rfl,h,rs⟩:=r
  exact⟨a,xs,rfl,.inr h,fun l hl=>k l xs _ (z0n hl) hl z0m (rs.mono (z0n hl))⟩
 ·cases q
  obtain⟨v,rfl,r⟩:=z3w hr
  unfold Rep at r
  obtain⟨a,rfl,h⟩:=r
  exact⟨a,_,rfl,.inl h.sq,fun l hl=>k l _ _ (z0n hl) hl z0m (z1K _)⟩
 ·cases q
theorem y0i{f:DE}(hg:Gl X "list")(hm:X.mg "list" = none)(h:PD X e f)(he:starEach [e] X.env=[(false,eval e X.env)]:=by rfl):PF X (.Call (.Name "list" p) [e] [] pos) (z2S z9B [f]):=
 x0P y1C ol_list hg hm PyProof.Rows.Boot.«list» (z0a h z0c he) (by decide) (by decide) he rfl
def tupF:List D->Option D
 |[.lst ds]=>some (.tup ds)
 |[.tup ds]=>some (.tup ds)
 |_=>none
end
end L2
namespace L2
open PySem PySem.Spec PyProof.Rows
def tyN:D->String
 |.non => "NoneType"
 |.bl _ => "bool"
 |.int _ => "int"
 |.str _ => "str"
 |.lst _ => "list"
 |.tup _ => "tuple"
 |.scr _ => "list"
 |.dct _ _ => "dict"
 |.exc _ => "object"
 |.obj _ _ _ _ => "object"
 |.cel _ _ => "list"
inductive IsT:String->Prop where
 |bool:IsT "bool" |int:IsT "int" |str:IsT "str" |list:IsT "list" |tuple:IsT "tuple" |dict:IsT "dict"
def isF(T:String)(d:D):Bool:=tyN d==T||(tyN d == "bool" && T == "int")
theorem kit_tt(K:aa){T:String}(h:IsT T)(d:D)(hd:∀x,d≠.exc x)(hd2:∀x a ks ds,d≠.obj x a ks ds):cr K (.type (tyN d)) (.type T)=some (isF T d):=by
 cases h <;> cases d <;> first | kernel_rfl | exact absurd rfl (hd _) | exact absurd rfl (hd2 _ _ _ _)
section
variable{prog:Program}{w:World}{A:Around}{E:Value->Shared->Prop}{K:aa}{x D:Addr}{ox:Obj}{s:Shared}
theorem y7A{Q:Option Value->Shared->Prop}(X:K.In s.heap)(I:dg s.heap x ox D none)(hga:aU K (.ref D) "__getattribute__" = some (some (.builtin "BaseException.__getattribute__")))(hgh:aU K (.ref D) "__getattr__" = some none)
  (hf:dQ K D none "__class__" = some (.bind (.builtin "getset_descriptor.__get__") (.builtin "object.__class__"))) (hm:b6 K D (.type "object")=some true) (hb:b6 K D (.type "BaseException")=some true)
  (h:Q (some (.ref D)) { s with toks:=s.toks+1 }):wpAny (model prog w) A (getAttr? (.ref x) "__class__") Q E s:=by
 obtain⟨hp,gs,dr,tk,os⟩:=s
 have T0:=I.type (M:=model prog w)
 have T1:=eU (M:=model prog w) X hga
 have T2:=eU (M:=model prog w) X hgh
 have T3:=PySem.W.looks_find (M:=model prog w) X I hf
 have T4:=PySem.W.looks_mroIn (M:=model prog w) X hb
 have hne:(onTheHeap (Value.ref D)&&Value.builtin "BaseException.__getattribute__" == Value.builtin "object.__getattribute__")=false:=by
  have z:(Value.builtin "BaseException.__getattribute__" == Value.builtin "object.__getattribute__")=false:=by decide +kernel
  rw [z,dz]
 unfold getAttr? getAttrBy?
 refine wpAny_bind (wpAny_mkText ?_)
 refine wpAny_bind (wpAny_attempt ?_)
 unfold getAttrBy
 refine wpAny_holding (wpAny_bind (T0.at ?_))
 refine wpAny_bind (T1.at ?_)
 dsimp only
 rw [hne,if_neg ar]
 unfold getAttrByItsOwn hookBefore
 rw [if_pos (show onTheHeap (Value.ref D)=true from rfl)]
 refine wpAny_bind (T2.at ?_)
 refine wpAny_bind (wpAny_attempt (wpAny_holding ?_))
 unfold callGetattribute boundAndCalled
 rw [dv,if_neg ar,F.excAttr_ValueError.ga.bind]
 refine wpAny_bind (wpAny_pure ?_)
 refine wpAny_call (codeAny_call_builtin F.excAttr_ValueError.ga.plain F.entry_bexc_ga ?_)
 have k1:builtinKind "BaseException.__getattribute__" = some .slot:=by decide +kernel
 have k2:splitId "BaseException.__getattribute__" = some ("BaseException", "__getattribute__"):=by decide +kernel
 simp only [checkBuiltinCall,k1,k2]
 have ha:=F.args_bexc_ga (.ref x) (.str "__class__" tk)
 have TI:PySem.W.Looks (model prog w) hp (isInstance (.ref x) (.type "BaseException")) true:=T0.andThen T4
 show wpAny _ _ (isInstance (.ref x) (.type "BaseException") >>= _) _ _ _
 refine wpAny_bind (TI.at ?_)
 rw [if_neg (by decide)]
 unfold argsOk at ha
 refine wpAny_of_eq (a:=()) ha ?_
 unfold Builtin.«object.__getattribute__»
 refine wpAny_bind (wpAny_of_eq (a:=(Value.ref x,[Value.str "__class__" tk])) rfl ?_)
 dsimp only
 refine wpAny_bind (wpAny_of_eq (a:=("__class__" : Str)) rfl ?_)
 refine wpAny_bind (T0.at ?_)
 refine wpAny_bind (T3.at ?_)
 show wpAny _ _ (holding [Value.builtin "object.__class__"] (call (.builtin "getset_descriptor.__get__") [.builtin "object.__class__",.ref x,.ref D]) >>= ret) _ _ _
 refine wpAny_bind (wpAny_holding (wpAny_call (PySem.W.class_get X I hm ?_)))
 refine wpAny_pure ?_
 exact PySem.W.handed_on rfl (wpAny_pure h)
end
theorem xcls_of{K:aa}{C:Addr}(h:y7z K C=true):aU K (.ref C) "__getattribute__" = some (some (.builtin "BaseException.__getattribute__"))∧aU K (.ref C) "__getattr__" = some none∧b6 K C (.type "BaseException")=some true∧(eh K C).isSome=true ∧
  aU K (.ref C) "__class__" = some (some (.builtin "object.__class__"))∧cb K (.builtin "object.__class__") "__get__" = some (some (.builtin "getset_descriptor.__get__"))∧cJ K (.builtin "object.__class__")=some true∧b6 K C (.type "object")=some true:=by
 unfold y7z at h
 simp only [aH,beq_iff_eq]at h
 exact⟨h.1.1.1.1.1.1.1.1,h.1.1.1.1.1.1.1.2,h.1.1.1.1.1.1.2,h.1.1.1.1.1.2,h.1.1.1.1.2,h.1.1.1.2,h.1.1.2,h.1.2⟩
theorem icls_of{K:aa}{C:Addr}{ks:List Str}(h:y5n K C ks=true):Cls K C∧aU K (.ref C) "__class__" = some (some (.builtin "object.__class__"))∧cb K (.builtin "object.__class__") "__get__" = some (some (.builtin "getset_descriptor.__get__"))∧cJ K (.builtin "object.__class__")=some true∧b6 K C (.type "object")=some true ∧
  (["bool", "int", "str", "list", "tuple", "dict"].all fun T=>cr K (.ref C) (.type T)==some false)=true∧∀f∈ks,NoAttr K C f:=by
 unfold y5n at h
 rw [be,be,be,be,be,be,be,be,be]at h
 obtain⟨⟨⟨⟨⟨⟨⟨⟨⟨a1,a2⟩,a3⟩,a4⟩,a5⟩,a6⟩,a7⟩,a8⟩,a9⟩,a10⟩:=h
 rw [aV]at a10
 exact⟨⟨a1,a2,a3,beq_iff_eq.mp a4⟩,beq_iff_eq.mp a5,beq_iff_eq.mp a6,beq_iff_eq.mp a7,beq_iff_eq.mp a8,a9,fun f hf=>beq_iff_eq.mp (a10 f hf)⟩
theorem x0N{K:aa}{x C:Addr}{ox:Obj}(h:y7z K C=true):PySem.W.KitX K (.ref x) (.ref C) (fun g=>dg g x ox C none):=by
 obtain⟨g1,g2,g3,h2,h3,h4,h5,h6⟩:=xcls_of h
 obtain⟨cd,hcd⟩:=cX.mp h2
 have hk:∃c d sl,K.lookup C=some ⟨c,d,.cls cd,sl⟩:=by
  unfold eh at hcd
  split at hcd
  ·cases hcd;exact⟨_,_,_,by assumption⟩
  ·cases hcd
 obtain⟨c0,d0,sl0,hk⟩:=hk
 have hf:dQ K C none "__class__" = some (.bind (.builtin "getset_descriptor.__get__") (.builtin "object.__class__")):=by
  unfold dQ
  rw [hcd,aq,h3,aq]
  simp [h4,h5]
 refine⟨fun _ _ _ I=>I.type,fun _ _ X _=>?_,fun g tp dd its n sl X ht=>?_,fun X I k=>?_⟩
 ·intro A' Q' E' s' kk q
  unfold isType loadHead
  exact wpAny_bind (wpAny_loadPart (kk _ _ (X _ _ hk)) (wpAny_pure q))
 ·cases hz:(Value.ref C==Value.ref tp)with
  |false=>rfl
  |true=>
   have e:C=tp:=Value.ref.inj (beq_iff_eq.mp hz)
   rw [←e]at ht
   have z:=(X _ _ hk).symm.trans ht
   cases z
 ·exact y7A X I g1 g2 hf h6 g3 k
theorem exc_at{X:Cx}{pins:List (Addr×Obj)}{σ:St}{H:Hp}{s:Shared}{a C:Addr}(I:Inv X pins σ H s)(h:H a=some (.ext (isX a C))):∃o,dg s.heap a o C none:=by
 obtain⟨⟨o,h1,h2,h3,h4⟩,_⟩:=(show ObjOk X.prog X.w H s.heap a (.ext (isX a C)) from I.hok a _ h)
 exact⟨o,h1,h2,h4,by rw [h3];trivial⟩
section
variable{X:Cx}{pins:List (Addr×Obj)}{σ:St}{H:Hp}{s:Shared}{B:Addr->Prop}{A:Around}{E:Value->Shared->Prop}{Q:Value->Shared->Prop}
theorem y4J{d:D}{v:V}{u:Value}{T:String}(I:Inv X pins σ H s)(r:Rep X.K H B d v)(rv:RelV v u)(hT:IsT T)(h:∀tk,Q (.bool (isF T d)) { s with toks:=tk }):wpAny (model X.prog X.w) A (call (.builtin "isinstance") [u,.type T]) Q E s:=by
 by_cases hd:∃x,d = .exc x
 ·obtain⟨x,rfl⟩:=hd
  unfold Rep at r
  obtain⟨a,C,rfl,_,hq,_,hx⟩:=r
  cases rv
  obtain⟨o,ie⟩:=exc_at I hq
  have e:cr X.K (.ref C) (.type T)=some (isF T (.exc x)):=by
   have h6:=(be.mp hx).2
   rw [aV]at h6
   have h7:=beq_iff_eq.mp (h6 T (by cases hT <;> decide))
   rw [h7]
   cases hT <;> rfl
  exact bC (x0N hx) I.kIn ie e (fun z=>nomatch z) h
 have hd:∀x,d≠.exc x:=fun x z=>hd ⟨x,z⟩
 by_cases hd2:∃x a ks ds,d = .obj x a ks ds
 ·obtain⟨x,a,ks,ds,rfl⟩:=hd2
  unfold Rep at r
  obtain⟨C,dx,fs,_,hq,⟨rfl,_,hx,_⟩,_⟩:=r
  cases rv
  obtain⟨cl,h3,h4,h5,h6,h7,_⟩:=icls_of hx
  obtain⟨mA,O,_⟩:=ins_get I.hok hq
  obtain⟨od,J,_⟩:=O.look
  have e:cr X.K (.ref C) (.type T)=some (isF T (.obj x a ks ds)):=by
   rw [aV]at h7
   have h8:=beq_iff_eq.mp (h7 T (by cases hT <;> decide))
   rw [h8]
   cases hT <;> rfl
  exact bC (PySem.W.kitx_own (cl.get _) cl.hd h3 h4 h5 h6) I.kIn J e (fun z=>nomatch z) h
 have e:=kit_tt X.K hT d hd (fun x a ks ds z=>hd2 ⟨x,a,ks,ds,z⟩)
 cases d with
 |exc x=>exact absurd rfl (hd x)
 |obj x a ks ds=>exact absurd ⟨x,a,ks,ds,rfl⟩ hd2
 |non=>cases r;cases rv;exact bC PySem.W.kitx_none I.kIn True.intro e (fun z=>nomatch z) h
 |bl y=>cases r;cases rv;exact bC PySem.W.kitx_bool I.kIn True.intro e (fun z=>nomatch z) h
 |int i=>cases r;obtain⟨t,q⟩:=rv;cases q;exact bC PySem.W.kitx_int I.kIn True.intro e (fun z=>nomatch z) h
 |str y=>cases r;obtain⟨t,q⟩:=rv;cases q;exact bC PySem.W.kitx_str I.kIn True.intro e (fun z=>nomatch z) h
 |cel a ds=>
  unfold Rep at r
  obtain⟨xs,_,hq,rfl,_⟩:=r
  cases rv
  obtain⟨its,_,⟨o,n,e1,c,_⟩,_⟩:=I.list (SqL.of hq)
  exact bC dF I.kIn ⟨o,e1,c⟩ e (fun z=>nomatch z) h
 |lst ds=>
  unfold Rep at r
  obtain⟨a,xs,rfl,_,hq,_⟩:=r
  cases rv
  obtain⟨its,_,⟨o,n,e1,c,_⟩,_⟩:=I.list (SqL.of hq)
  exact bC dF I.kIn ⟨o,e1,c⟩ e (fun z=>nomatch z) h
 |tup ds=>
  unfold Rep at r
  obtain⟨a,xs,rfl,hq,_⟩:=r
  cases rv
  obtain⟨its,_,⟨o,e1,c,_⟩,_⟩:=I.tuple hq
  exact bC PySem.W.kitx_tuple I.kIn ⟨o,e1,c⟩ e (fun z=>nomatch z) h
 |scr ns=>
  unfold Rep at r
  obtain⟨a,rfl,hq⟩:=r
  cases rv
  obtain⟨its,_,⟨o,n,e1,c,_⟩,_⟩:=I.list hq.sq
  exact bC dF I.kIn ⟨o,e1,c⟩ e (fun z=>nomatch z) h
 |dct ks ds=>
  unfold Rep at r
  obtain⟨a,kvs,rfl,_,ea,_⟩:=r
  cases rv
  obtain⟨_,_,vs,_,p⟩:=(show ObjOk X.prog X.w H s.heap a (.dK kvs) from I.hok a _ ea)
  obtain⟨o,es,ep,h1,h2,_⟩:=p
  exact bC PySem.W.kitx_dict I.kIn ⟨o,h1,h2.1⟩ e (fun z=>nomatch z) h
end
section
variable{X:Cx}{e:Expr}{p p2 pos:Pos}
def dIs(T:String)(f:DE):DE:=fun δ=>(f δ).map fun d=>.bl (isF T d)
theorem x0m{T:String}(hT:IsT T):z4n X (.builtin "isinstance") (fun xs H Q=>∃B d v,xs=[v,.ty T]∧Rep X.K H B d v∧Q (.bl (isF T d)) H):=by
 intro pins s σ H xs us Q I r h
 obtain⟨B,d,v,rfl,rv,q⟩:=h
 obtain⟨u,w',rfl,r1,r2⟩:=vals2 r
 cases r2
 exact y4J I rv r1 hT fun tk=>⟨.bl _,H,I.tok tk,rfl,q⟩
theorem pd_is{f:DE}{x:Str}{T:String}(hT:IsT T)(hb:bootBuiltins x=some (.type T))(hx:Gl X x)(hmx:X.mg x=none)(hnx:x ≠ "__name__")(hdx:(x==("__debug__" : Str))=false)(hg:Gl X "isinstance")(hm:X.mg "isinstance" = none)(h:PD X e f)
  (he:starEach [e,.Name x p2] X.env=[(false,eval e X.env),(false,eval (.Name x p2) X.env)]:=by rfl) (he2:starEach [.Name x p2] X.env=[(false,eval (.Name x p2) X.env)]:=by rfl):PD X (.Call (.Name "isinstance" p) [e,.Name x p2] [] pos) (dIs T f):=
 (z6z (x0m hT) hg hm boot_isinstance (z1V h (z1V (pe_bltn (v:=.ty T) hx hmx hb rfl hnx hdx) pa_nil he2) (by rw [he,he2])) (by decide) (by decide) (by rw [he,he2]) (by rw [he2];rfl)).imp fun σ H Q ⟨B,δ,d,hB,S,q,k⟩=>by
  unfold dIs at q
  cases e1:f δ with
  |none=>rw [e1]at q;cases q
  |some d'=>
   rw [e1]at q
   cases q
   exact⟨B,δ,d',hB,S,e1,fun v H1 s1 r1=>⟨B,d',v,rfl,r1,k _ H1 s1 rfl⟩⟩
theorem y1b{f:DE}(hx:Gl X "bool")(hmx:X.mg "bool" = none)(hg:Gl X "isinstance")(hm:X.mg "isinstance" = none)(h:PD X e f)(he:starEach [e,.Name "bool" p2] X.env=[(false,eval e X.env),(false,eval (.Name "bool" p2) X.env)]:=by rfl):
  PD X (.Call (.Name "isinstance" p) [e,.Name "bool" p2] [] pos) (dIs "bool" f):=pd_is .bool PyProof.Rows.Boot.«bool» hx hmx (by decide) (by decide) hg hm h he rfl
theorem y4b{f:DE}(hx:Gl X "int")(hmx:X.mg "int" = none)(hg:Gl X "isinstance")(hm:X.mg "isinstance" = none)(h:PD X e f)(he:starEach [e,.Name "int" p2] X.env=[(false,eval e X.env),(false,eval (.Name "int" p2) X.env)]:=by rfl):
  PD X (.Call (.Name "isinstance" p) [e,.Name "int" p2] [] pos) (dIs "int" f):=pd_is .int PyProof.Rows.Boot.«int» hx hmx (by decide) (by decide) hg hm h he rfl
theorem y9Y{f:DE}(hx:Gl X "list")(hmx:X.mg "list" = none)(hg:Gl X "isinstance")(hm:X.mg "isinstance" = none)(h:PD X e f)(he:starEach [e,.Name "list" p2] X.env=[(false,eval e X.env),(false,eval (.Name "list" p2) X.env)]:=by rfl):
  PD X (.Call (.Name "isinstance" p) [e,.Name "list" p2] [] pos) (dIs "list" f):=pd_is .list PyProof.Rows.Boot.«list» hx hmx (by decide) (by decide) hg hm h he rfl
end
def y2I(i:Nat):Option SD->Option SD
 |some (.bo r d)=>if r=i then none else some (.bo r d)
 |o=>o
def z0z(i:Nat)(δ:SS):SS:=δ.map (y2I i)
theorem z2g{i j:Nat}{δ:SS}{x:SD}(h:(z0z i δ)[j]? = some (some x)):δ[j]? = some (some x)∧∀d,x≠.bo i d:=by
 unfold z0z at h
 rw [aN]at h
 cases e:δ[j]? with
 |none=>rw [e]at h;cases h
 |some o=>
  rw [e]at h
  have h':y2I i o=some x:=Option.some.inj h
  unfold y2I at h'
  split at h'
  ·rename_i r d
   split at h'
   ·cases h'
   ·rename_i hr
    cases h'
    exact⟨rfl,fun d' z=>by cases z;exact hr rfl⟩
  ·rename_i hn
   subst h'
   exact⟨rfl,fun d z=>hn i d (by rw [z])⟩
section
variable{K:aa}{H0 H:Hp}{B0:Addr->Prop}{σ:St}{δ:SS}{R:Nat->List Addr}
theorem RS.rewrite{Hold:Hp}{i:Nat}{d d':D}{a:Addr}{o:HO}{v:V}{A':List Addr}(h:RS K H0 B0 Hold σ δ R)(e:Same Hold H)(hi:δ[i]? = some (some (.ow d)))(hv:σ[i]? = some (some v))(ha:a∈R i)(t:Tree K (upd H a o) d' v A')(nd:A'.Nodup)(sub:∀b∈A',b∈R i∨Hold b=none):
  RS K H0 B0 (upd H a o) σ ((z0z i δ).set i (some (.ow d'))) (z5W R i A')∧Stp R Hold (z5W R i A') (upd H a o):=by
 have hm:=h.mono e
 obtain⟨oa,ea,ma⟩:=hm.held i a ha
 have mH:Mut (H a):=by rw [ea];exact ma
 have mem:∀r b,b∈z5W R i A' r->b∈R r∨(r=i∧Hold b=none):=fun r b z=>by
  by_cases hr:r=i
  ·subst hr;rw [z0C]at z;exact(sub b z).imp id fun q=>⟨rfl,q⟩
  ·rw [z0T hr]at z;exact .inl z
 have kt:KeepI K H (upd H a o):=(Keep.upd (K:=K) (B:=fun x=>x=a) rfl mH).i
 have nh:∀r b,b∈R r->Hold b=none->False:=fun r b z q=>by
  obtain⟨u,q',_⟩:=h.held r b z
  rw [q]at q';cases q'
 refine⟨⟨fun b u q=>?_,h.inB,by simp [z0z,h.len],fun r b z=>?_,fun r b z=>?_,fun r s b z z'=>?_,fun j d2 z=>?_,fun j r2 d2 z=>?_,fun j d2 z=>?_⟩,⟨fun b u q n=>?_,fun r b z=>?_,fun b z=>?_⟩⟩
 ·have ne:b≠a:=fun z=>by subst z;rw [h.new i b ha]at q;cases q
  rw [z0q ne];exact hm.keep b u q
 ·rcases mem r b z with z | ⟨_,z⟩
  ·exact h.new r b z
  ·exact h.keep.free z
 ·by_cases hr:r=i
  ·subst hr;rw [z0C]at z;exact t.held d' b z
  ·rw [z0T hr]at z
   have ne:b≠a:=fun q=>hr (h.disj r i b z (q ▸ ha))
   rw [z0q ne];exact hm.held r b z
 ·rcases mem r b z with z | ⟨z1,z2⟩ <;> rcases mem s b z' with z' | ⟨z1',z2'⟩
  ·exact h.disj r s b z z'
  ·exact(nh r b z z2').elim
  ·exact(nh s b z' z2).elim
  ·rw [z1,z1']
 ·rcases z1D z with⟨rfl,q,_⟩ | ⟨hj,q⟩
  ·cases q
  ·obtain⟨q1,_⟩:=z2g q
   obtain⟨w,e1,r⟩:=h.sh j d2 q1
   have r2:=(Rep.wide (C:=fun b=>Hold b=none) (fun _ z=>z) d2 r).mono e
   refine⟨w,e1,Rep.anti ?_ d2 (Rep.keep (.upd (.inl (.inr ⟨i,ha⟩)) mH) d2 r2)⟩
   rintro b (z | ⟨r,z⟩)
   ·exact .inl (.inl z)
   ·rcases mem r b z with z | ⟨_,z⟩
    ·exact .inl (.inr ⟨r,z⟩)
    ·exact .inr z
 ·rcases z1D z with⟨rfl,q,_⟩ | ⟨hj,q⟩
  ·cases q
  ·obtain⟨q1,q2⟩:=z2g q
   have hr:i≠r2:=fun e=>q2 d2 (by rw [e])
   obtain⟨w,e1,r⟩:=h.bo j r2 d2 q1
   have r3:=(Rep.wide (C:=fun b=>Hold b=none) (fun _ z=>z) d2 r).mono e
   refine⟨w,e1,Rep.anti ?_ d2 (Rep.keep (.upd (.inl (.inr ⟨i,hr,ha⟩)) mH) d2 r3)⟩
   rintro b (z | ⟨s,hs,z⟩)
   ·exact .inl (.inl z)
   ·rcases mem s b z with z | ⟨_,z⟩
    ·exact .inl (.inr ⟨s,hs,z⟩)
    ·exact .inr z
 ·rcases z1D z with⟨rfl,q,_⟩ | ⟨hj,q⟩
  ·cases q
   rw [z0C]
   exact⟨v,hv,t,nd⟩
  ·obtain⟨q1,_⟩:=z2g q
   obtain⟨w,e1,t',nd'⟩:=hm.ow j d2 q1
   rw [z0T hj]
   refine⟨w,e1,Tree.keep kt d2 t' fun b hb u q=>?_,nd'⟩
   have ne:b≠a:=fun z=>by subst z;exact hj (h.disj j i b hb ha)
   rw [z0q ne];exact q
 ·have ne:b≠a:=fun z=>n i (z ▸ ha)
  rw [z0q ne];exact e b u q
 ·rcases mem r b z with z | ⟨_,z⟩
  ·exact .inl ⟨r,z⟩
  ·exact .inr z
 ·by_cases hb:b=a
  ·subst hb;rw [z0m]at z;cases z
  ·rw [z0q hb]at z;exact e.free z
mutual
theorem Tree.flat:∀(d:D) {v:V} {A:List Addr},d.imm=true->Tree K H d v A->A=[]
 |.non,_,_,_,h=>h.2
 |.bl _,_,_,_,h=>h.2
 |.int _,_,_,_,h=>h.2
 |.str _,_,_,_,h=>h.2
 |.lst _,_,_,i,_=>by unfold D.imm at i;cases i
 |.dct _ _,_,_,i,_=>by unfold D.imm at i;cases i
 |.exc _,_,_,i,_=>by unfold D.imm at i;cases i
 |.obj _ _ _ _,_,_,i,_=>by unfold D.imm at i;cases i
 |.cel _ _,_,_,i,_=>by unfold D.imm at i;cases i
 |.tup ds,_,_,i,h=>by
  unfold D.imm at i
  unfold Tree at h
  obtain⟨a,xs,_,_,r⟩:=h
  exact Trees.flat ds i r
 |.scr _,_,_,_,h=>h.2
theorem Trees.flat:∀(ds:List D) {xs:List V} {A:List Addr},z1P ds=true->Trees K H ds xs A->A=[]
 |[],_,_,_,h=>h.2
 |d::ds,_,_,i,h=>by
  unfold z1P at i
  rw [aH]at i
  unfold Trees at h
  obtain⟨x,r,C,C',rfl,h1,h2,rfl⟩:=h
  rw [Trees.flat ds i.2 h2,aP]
  exact Tree.flat d i.1 h1
end
theorem Trees.append:∀{ds es:List D} {xs ys:List V} {A C:List Addr},Trees K H ds xs A->Trees K H es ys C->Trees K H (ds++es) (xs++ys) (A++C)
 |[],_,_,_,_,_,h,h'=>by obtain⟨rfl,rfl⟩:=h;exact h'
 |d::ds,es,_,ys,_,C,h,h'=>by
  unfold Trees at h
  obtain⟨y,r,A1,A2,rfl,h1,h2,rfl⟩:=h
  exact(show Trees K H (d::(ds++es)) (y::(r++ys)) (A1++A2++C) by unfold Trees;exact⟨y,_,A1,A2++C,rfl,h1,Trees.append h2 h',aZ _ _ _⟩)
theorem Trees.split:∀{ds:List D} {xs:List V} {A:List Addr} (k:Nat),Trees K H ds xs A->∃A1 A2,A=A1++A2∧Trees K H (ds.take k) (xs.take k) A1∧Trees K H (ds.drop k) (xs.drop k) A2
 |ds,xs,A,0,h=>⟨[],A,rfl,by rw [List.take_zero,List.take_zero];exact⟨rfl,rfl⟩,h⟩
 |[],_,_,k+1,h=>by
  obtain⟨rfl,rfl⟩:=h
  exact⟨[],[],rfl,⟨rfl,rfl⟩,⟨rfl,rfl⟩⟩
 |d::ds,_,_,k+1,h=>by
  unfold Trees at h
  obtain⟨y,r,A1,A2,rfl,h1,h2,rfl⟩:=h
  obtain⟨C1,C2,rfl,h3,h4⟩:=Trees.split k h2
  refine⟨A1++C1,C2,(aZ _ _ _).symm,?_,h4⟩
  rw [fE,fE]
  unfold Trees
  exact⟨y,_,A1,C1,rfl,h1,h3,rfl⟩
theorem Trees.one{d:D}{x:V}{A:List Addr}(h:Tree K H d x A):Trees K H [d] [x] A:=by
 unfold Trees
 exact⟨x,[],A,[],rfl,h,⟨rfl,rfl⟩,(aP _).symm⟩
theorem Trees.length:∀{ds:List D} {xs:List V} {A:List Addr},Trees K H ds xs A->ds.length=xs.length
 |[],_,_,h=>by obtain⟨rfl,_⟩:=h;rfl
 |d::ds,_,_,h=>by
  unfold Trees at h
  obtain⟨x,r,_,_,rfl,_,h2,_⟩:=h
  simp [Trees.length h2]
theorem RS.top{i:Nat}{ds:List D}(h:RS K H0 B0 H σ δ R)(hi:δ[i]? = some (some (.ow (.lst ds)))):∃a xs A,σ[i]? = some (some (.ref a))∧H a=some (.lst xs)∧Trees K H ds xs A∧R i=a::A∧(a::A).Nodup:=by
 obtain⟨v,e,t,nd⟩:=h.ow i _ hi
 unfold Tree at t
 obtain⟨a,xs,A,rfl,ha,ts,e2⟩:=t
 rw [e2]at nd
 exact⟨a,xs,A,e,ha,ts,e2,nd⟩
theorem RS.put0{Hold:Hp}{i:Nat}{ds ds':List D}{a:Addr}{xs':List V}{A A':List Addr}(h:RS K H0 B0 Hold σ δ R)(e:Same Hold H)(hi:δ[i]? = some (some (.ow (.lst ds))))(hv:σ[i]? = some (some (.ref a)))(hR:R i=a::A)(nd:(a::A).Nodup)
  (t:Trees K H ds' xs' A') (nd':A'.Nodup) (sub:∀b∈A',b∈A∨Hold b=none):RS K H0 B0 (upd H a (.lst xs')) σ ((z0z i δ).set i (some (.ow (.lst ds')))) (z5W R i (a::A'))∧Stp R Hold (z5W R i (a::A')) (upd H a (.lst xs')):=by
 have ha:a∈R i:=by rw [hR];exact ah
 obtain⟨oa,ea,ma⟩:=h.held i a ha
 have nA:∀b∈A',b≠a:=fun b hb z=>by
  rcases sub b hb with q | q
  ·exact(av.mp nd).1 (z ▸ q)
  ·rw [z,ea]at q;cases q
 have mH:Mut (H a):=by rw [e a oa ea];exact ma
 refine h.rewrite e hi hv ha ?_ (av.mpr ⟨fun z=>nA a z rfl,nd'⟩) fun b hb=>?_
 ·unfold Tree
  refine⟨a,xs',A',rfl,z0m,Trees.keep (Keep.upd (K:=K) (B:=fun x=>x=a) rfl mH).i ds' t fun b hb o q=>?_,rfl⟩
  rw [z0q (nA b hb)];exact q
 ·rw [hR]
  rcases ai.mp hb with z | z
  ·rw [z];exact .inl ah
  ·exact(sub b z).imp (ag _) id
theorem Trees.set1{es:List D}:∀{ds:List D} {xs:List V} {A:List Addr} (k:Nat),Trees K H ds xs A->A.Nodup->ds[k]? = some (.lst es)->z1P es=true →
  ∃b ys,xs[k]? = some (.ref b)∧H b=some (.lst ys)∧b∈A∧Trees K H es ys []∧∀es' ys',Trees K H es' ys' []->Trees K (upd H b (.lst ys')) (ds.set k (.lst es')) xs A
 |[],_,_,_,_,_,e,_=>by simp at e
 |d::ds,_,_,0,h,nd,e,hi=>by
  simp at e
  subst e
  unfold Trees at h
  obtain⟨x,r,A1,A2,rfl,h1,h2,rfl⟩:=h
  unfold Tree at h1
  obtain⟨b,ys,C,rfl,hb,tb,rfl⟩:=h1
  have eC:=Trees.flat es hi tb
  subst eC
  have mH:Mut (H b):=by rw [hb];exact trivial
  have kt:∀o,KeepI K H (upd H b o):=fun o=>(Keep.upd (K:=K) (B:=fun x=>x=b) (o:=o) rfl mH).i
  refine⟨b,ys,rfl,hb,by simp,tb,fun es' ys' t'=>?_⟩
  rw [dH]
  unfold Trees
  refine⟨.ref b,r,[b],A2,rfl,?_,Trees.keep (kt _) ds h2 fun c hc o q=>?_,rfl⟩
  ·unfold Tree
   exact⟨b,ys',[],rfl,z0m,Trees.keep (kt _) es' t' (fun c hc=>nomatch hc),rfl⟩
  ·have ne:c≠b:=fun z=>(av.mp nd).1 (by rw [←z];exact hc)
   rw [z0q ne];exact q
 |d::ds,_,_,k+1,h,nd,e,hi=>by
  unfold Trees at h
  obtain⟨x,r,A1,A2,rfl,h1,h2,rfl⟩:=h
  have ndA:=bf.mp nd
  obtain⟨b,ys,e1,hb,hbA,tb,up⟩:=Trees.set1 k h2 ndA.2.1 (by simpa using e) hi
  refine⟨b,ys,by simpa using e1,hb,aT _ hbA,tb,fun es' ys' t'=>?_⟩
  have mH:Mut (H b):=by rw [hb];exact trivial
  have kt:KeepI K H (upd H b (.lst ys')):=(Keep.upd (K:=K) (B:=fun x=>x=b) rfl mH).i
  rw [dI]
  unfold Trees
  refine⟨x,r,A1,A2,rfl,Tree.keep kt d h1 fun c hc o q=>?_,up es' ys' t',rfl⟩
  have ne:c≠b:=fun z=>ndA.2.2 c hc b hbA z
  rw [z0q ne];exact q
theorem RS.put1{Hold:Hp}{i k:Nat}{ds es:List D}(h:RS K H0 B0 Hold σ δ R)(e:Same Hold H)(hi:δ[i]? = some (some (.ow (.lst ds))))(hk:ds[k]? = some (.lst es))(hm:z1P es=true):
  ∃a xs b ys,σ[i]? = some (some (.ref a))∧Hold a=some (.lst xs)∧xs[k]? = some (.ref b)∧Hold b=some (.lst ys)∧ds.length=xs.length∧Trees K H es ys []∧∀es' ys',Trees K H es' ys' [] →
   RS K H0 B0 (upd H b (.lst ys')) σ ((z0z i δ).set i (some (.ow (.lst (ds.set k (.lst es')))))) (z5W R i (R i))∧Stp R Hold (z5W R i (R i)) (upd H b (.lst ys')):=by
 obtain⟨a,xs,A,ev,ha,ts,eR,nd⟩:=h.top hi
 obtain⟨b,ys,e1,hb,hbA,tb,_⟩:=Trees.set1 k ts (av.mp nd).2 hk hm
 obtain⟨b',ys',e1',hb',_,tb',up⟩:=Trees.set1 k (ts.mono e) (av.mp nd).2 hk hm
 rw [e1]at e1'
 cases e1'
 refine⟨a,xs,b,ys,ev,ha,e1,hb,ts.length,tb.mono e,fun es' zs t'=>?_⟩
 have hba:b∈R i:=by rw [eR];exact ag _ hbA
 have nba:a≠b:=fun z=>(av.mp nd).1 (z ▸ hbA)
 refine h.rewrite e hi ev hba ?_ (by rw [eR];exact nd) fun c hc=>.inl hc
 rw [eR]
 unfold Tree
 exact⟨a,xs,A,rfl,by rw [z0q nba];exact e _ _ ha,up es' zs t',rfl⟩
end
end L2
namespace L2
open PySem PySem.Spec PyProof.Rows
instance{i j:Int}:Decidable (CDiv i j):=by unfold CDiv;infer_instance
instance{i j:Int}:Decidable (CPow i j):=by unfold CPow;infer_instance
instance{i j:Int}:Decidable (CMul i j):=by unfold CMul;infer_instance
def LM(K:aa)(r:V->List V->Hp->VK->Prop)(F:List D->List D->Option (List D)):Prop:=
 ∀(H:Hp) (a:Addr) (xs:List V) (ds args:List D) (vs:List V) (ds':List D) (Q:VK),H a=some (.lst xs)->ds.length=xs.length->Reps K H noB args vs->F ds args=some ds' →
  (∀(w:V) (xs':List V),(∀(H2:Hp) (A C:List Addr),Trees K H2 ds xs A->Trees K H2 args vs C->∃A',Trees K H2 ds' xs' A'∧((A++C).Nodup->A'.Nodup)∧∀b∈A',b∈A∨b∈C)->Q w (upd H a (.lst xs')))->r (.ref a) vs H Q
def z9a:List D->List D->Option (List D):=fun ds args=>match args with
 |[d]=>if ds.length<sizeLine then some (ds++[d])else none
 |_=>none
theorem z7b{K:aa}:LM K z8N z9a:=by
 intro H a xs ds args vs ds' Q ha hl hr q k
 unfold z9a at q
 split at q
 ·rename_i d
  split at q
  ·rename_i hz
   cases q
   obtain⟨y,rfl,ry⟩:=z3w hr
   refine⟨a,xs,y,rfl,rfl,ha,by rw [←hl];exact hz,k _ _ fun H2 A C t tc=>⟨A++C,t.append tc,fun z=>z,fun b hb=>ay.mp hb⟩⟩
  ·cases q
 ·cases q
def y4I(n:Nat)(i:Int):Nat:=if i<0 then(i+(n:Int)).toNat else min i.toNat n
def y9J:V->List V->Hp->VK->Prop:=fun x vs H Q=>∃l xs i y,x = .ref l∧vs=[.int i,y]∧H l=some (.lst xs)∧xs.length<sizeLine∧-(2 ^ 63)≤i∧i<2 ^ 63∧Q .non (upd H l (.lst (xs.take (y4I xs.length i)++y::xs.drop (y4I xs.length i))))
theorem ins_arr(its:List Value)(k:Nat)(y:Value):(its.toArray.extract 0 k).push y++its.toArray.extract k=(its.take k++y::its.drop k).toArray:=by
 apply Array.ext'
 simp
 rw [eZ (by simp)]
theorem y8I{X:Cx}:MtM X "list.insert" y9J:=by
 intro pins s σ H x vs v us Q I rx rv h
 obtain⟨l,xs,i,y,rfl,rfl,hH,hz,h1,h2,q⟩:=h
 cases rx
 obtain⟨u,w',rfl,⟨t,rfl⟩,ry⟩:=rv.two
 obtain⟨z,its,n,r,hl,e⟩:=I.lstM hH
 have hfit:Builtin.List.listFitsIndex i=true:=fitsIndex_both h1 h2
 refine call_meets F.slot_list_insert ⟨_,e,rfl⟩ F.entry_list_insert (F.args_list_insert_3 _ _ _)
  (AutoSeq1.list_insert_list_int_val_1 l its.toArray n i t w' (by rw [hfit];decide) (by rw [aD];omega)) ⟨e,?_⟩
 refine⟨.non,_,I.lset (its':=its.take (y4I its.length i)++w'::its.drop (y4I its.length i)) (ys:=xs.take (y4I xs.length i)++y::xs.drop (y4I xs.length i)) hH e ?_ ?_ ?_,rfl,q⟩
 ·show(its.toArray.extract 0 (if i<0 then(i+(its.toArray.size:Int)).toNat else min i.toNat its.toArray.size)).push w'++its.toArray.extract (if i<0 then(i+(its.toArray.size:Int)).toNat else min i.toNat its.toArray.size)=_
  rw [ins_arr,aD]
  rfl
 ·rw [←hl]
  exact(r.take _).append (.cons ry (r.drop _))
 ·have:y4I xs.length i≤xs.length∨¬ y4I xs.length i≤xs.length:=Decidable.em _
  simp only [aF,dW,aY,List.length_drop]
  omega
def insF:List D->List D->Option (List D):=fun ds args=>match args with
 |[.int i,d]=>if ds.length<sizeLine∧-(2 ^ 63)≤i∧i<2 ^ 63 then some (ds.take (y4I ds.length i)++d::ds.drop (y4I ds.length i))else none
 |_=>none
theorem y9b{A1 A2 C:List Addr}(h:(A1++A2++C).Nodup):(A1++(C++A2)).Nodup:=by
 have p:(A1++A2++C).Perm (A1++(C++A2)):=by
  rw [aZ]
  exact List.Perm.append_left _ List.perm_append_comm
 exact p.nodup_iff.mp h
theorem y5M{K:aa}:LM K y9J insF:=by
 intro H a xs ds args vs ds' Q ha hl hr q k
 unfold insF at q
 split at q
 ·rename_i i d
  split at q
  ·rename_i hz
   cases q
   obtain⟨v,y,rfl,rv,ry⟩:=reps2 hr
   cases (show v=V.int i from rv)
   refine⟨a,xs,i,y,rfl,rfl,ha,by rw [←hl];exact hz.1,hz.2.1,hz.2.2,k _ _ fun H2 A C t tc=>?_⟩
   rw [←hl]
   obtain⟨A1,A2,rfl,t1,t2⟩:=t.split (y4I ds.length i)
   unfold Trees at tc
   obtain⟨x1,r1,C1,C2,e1,h1,h2,rfl⟩:=tc
   cases e1
   obtain⟨_,eC1⟩:=(show V.int i=V.int i∧C1=[] from h1)
   subst eC1
   unfold Trees at h2
   obtain⟨x2,r2,C3,C4,e2,h3,h4,rfl⟩:=h2
   cases e2
   obtain⟨_,rfl⟩:=h4
   refine⟨A1++(C3++A2),t1.append ?_,fun z=>?_,fun b hb=>?_⟩
   ·unfold Trees
    exact⟨_,_,C3,A2,rfl,h3,t2,rfl⟩
   ·simp only [cP,aP]at z
    exact y9b z
   ·simp only [cP,aP,ay]at hb ⊢
    rcases hb with z | z | z
    ·exact .inl (.inl z)
    ·exact .inr z
    ·exact .inl (.inr z)
  ·cases q
 ·cases q
theorem Trees.erase{K:aa}{H:Hp}:∀{ds:List D} {xs:List V} {A:List Addr} (k:Nat),Trees K H ds xs A->∃A',Trees K H (ds.eraseIdx k) (xs.eraseIdx k) A'∧A'.Sublist A
 |[],_,_,_,h=>by
  obtain⟨rfl,rfl⟩:=h
  exact⟨[],⟨rfl,rfl⟩,List.Sublist.refl _⟩
 |d::ds,_,_,0,h=>by
  unfold Trees at h
  obtain⟨x,r,A1,A2,rfl,h1,h2,rfl⟩:=h
  exact⟨A2,h2,eK _ _⟩
 |d::ds,_,_,k+1,h=>by
  unfold Trees at h
  obtain⟨x,r,A1,A2,rfl,h1,h2,rfl⟩:=h
  obtain⟨A',t,sb⟩:=Trees.erase k h2
  refine⟨A1++A',?_,List.Sublist.append_left sb _⟩
  rw [eY,eY]
  unfold Trees
  exact⟨x,_,A1,A',rfl,h1,t,rfl⟩
section
variable{X:Cx}{H0:Hp}{B0:Addr->Prop}{fr:Bool}{RX:XR}{e e2:Expr}{es:List Expr}{pos ap cp:Pos}{x name:Str}{px p2:Pos}{bid:String}{r:V->List V->Hp->VK->Prop}{F:List D->List D->Option (List D)}{fl:List DE}
def m0(i:Nat)(F:List D->List D->Option (List D))(fl:List DE):SS->Option Out:=fun δ=>(z0o fl (z0u δ)).bind fun args=>if z1P args=true then(match δ[i]? with
 |some (some (.ow (.lst ds)))=>(F ds args).map fun ds'=>.nx ((z0z i δ).set i (some (.ow (.lst ds'))))
 |_=>none)else none
theorem m0_core{i:Nat}{to:TE}(hL:LM X.K r F)(hto:to=y1u i)(D:Ends)(σ:St)(H:Hp)(h:tS X.K H0 B0 fr RX (m0 i F fl) D σ H):tDrop (tBM X.K "list" r to (tDs X.K (z0o fl))) D σ H:=by
 subst hto
 obtain⟨δ,R,o,rs,q,k⟩:=h
 unfold m0 at q
 cases e1:z0o fl (z0u δ)with
 |none=>rw [e1]at q;cases q
 |some args=>
  rw [e1]at q
  have q:(if z1P args=true then(match δ[i]? with | some (some (.ow (.lst ds)))=>(F ds args).map fun ds'=>Out.nx ((z0z i δ).set i (some (.ow (.lst ds')))) | _=>none)else none)=some o:=q
  split at q
  case isFalse=>cases q
  case isTrue hi=>
  split at q
  case h_2=>cases q
  case h_1 ds ei=>
  cases e2:F ds args with
  |none=>rw [e2]at q;cases q
  |some ds'=>
   rw [e2]at q
   cases q
   obtain⟨a,xs,A,ev,ha,ts,eR,nd⟩:=rs.top ei
   refine⟨.ref a,ev,.inl ⟨rfl,xs,SqL.of ha⟩,noB,z0u δ,args,.no,rs.all,e1,fun vs H2 s2 r2=>?_⟩
   refine hL H2 a xs ds args vs ds' _ (s2 _ _ ha) ts.length r2 e2 fun w xs' up=>?_
   obtain⟨A',t',n',sub⟩:=up H2 A [] (ts.mono s2) (r2.immTree args hi)
   have P:=rs.put0 s2 ei ev eR nd t' (n' (by rw [aP];exact(av.mp nd).2)) fun b hb=>(sub b hb).imp id (fun z=>nomatch z)
   exact k σ _ _ P.1 P.2
theorem s_m0{i:Nat}(slot:Slot "list" name bid)(hty:typeOf (.builtin bid)=pure (.type "method_descriptor"))(hm:MtM X bid r)(hL:LM X.K r F)(hx:PE X (.Name x px) (y1u i))(ha:PAD X (e::es) fl)
  (hbase:attributeBase (.Name x px) name X.env (eval (.Name x px) X.env)=eval (.Name x px) X.env:=by rfl)
  (hfew:((backTo cp (starEach (e::es) X.env)).all (fun x=>!x.1)&&(backToKw cp (keywordEach [] X.env)).all (fun x=>x.1.isSome)&&decide ((e::es).length+([]:List Keyword).length+(if([]:List Keyword).isEmpty then 0 else 1)<30))=true:=by rfl)
  (hline:(ap.endLine==cp.line)=true:=by rfl) (hs:starEach (e::es) X.env=(false,eval e X.env)::starEach es X.env:=by rfl) (hplain:(backTo cp (starEach es X.env)).any (·.1)=false:=by rfl)
  (hsw:swapsWith (.Call (.Attribute (.Name x px) name ap) (e::es) [] cp) none pos.line X.env=pure false:=by rfl):
  PS X (.Expr (.Call (.Attribute (.Name x px) name ap) (e::es) [] cp) pos) (tS X.K H0 B0 fr RX (m0 i F fl)):=
 PS.imp (z6V (x0U PySem.F.plainAttrs_list slot hty hm hx ha hbase hfew hline hs hplain) hsw) (m0_core hL rfl)
def m1(i:Nat)(fk:DE)(F:List D->List D->Option (List D))(fl:List DE):SS->Option Out:=fun δ=>(fk (z0u δ)).bind fun dk=>match dk with
 |.int k=>(z0o fl (z0u δ)).bind fun args=>if z1P args=true then(match δ[i]? with
  |some (some (.ow (.lst ds)))=>(ixN ds.length k).bind fun j=>match ds[j]? with
   |some (.lst es)=>if z1P es=true then(F es args).bind fun es'=>if z1P es'=true then some (.nx ((z0z i δ).set i (some (.ow (.lst (ds.set j (.lst es')))))))else none else none
   |_=>none
  |_=>none)else none
 |_=>none
def st0(i:Nat)(fk fv:DE):SS->Option Out:=fun δ=>(fv (z0u δ)).bind fun d=>if d.imm=true then(fk (z0u δ)).bind fun dk=>(match dk,δ[i]? with
 |.int k,some (some (.ow (.lst ds)))=>(ixN ds.length k).map fun j=>.nx ((z0z i δ).set i (some (.ow (.lst (ds.set j d)))))
 |_,_=>none)else none
def st1(i:Nat)(fk fj fv:DE):SS->Option Out:=fun δ=>(fv (z0u δ)).bind fun d=>if d.imm=true then(fk (z0u δ)).bind fun dk=>(fj (z0u δ)).bind fun dj=>(match dk,dj,δ[i]? with
 |.int k,.int j,some (some (.ow (.lst ds)))=>(ixN ds.length k).bind fun k'=>(match ds[k']? with
  |some (.lst es)=>if z1P es=true then(ixN es.length j).map fun j'=>.nx ((z0z i δ).set i (some (.ow (.lst (ds.set k' (.lst (es.set j' d)))))))else none
  |_=>none)
 |_,_,_=>none)else none
end
end L2
namespace L2
open PySem PySem.Spec PyProof.Rows
theorem Trees.setI{K:aa}{H:Hp}{d:D}{y:V}(ty:Tree K H d y []):∀{ds:List D} {xs:List V} {A:List Addr} (j:Nat),Trees K H ds xs A->∃A',Trees K H (ds.set j d) (xs.set j y) A'∧A'.Sublist A
 |[],_,_,_,h=>by
  obtain⟨rfl,rfl⟩:=h
  exact⟨[],⟨rfl,rfl⟩,List.Sublist.refl _⟩
 |e::ds,_,_,0,h=>by
  unfold Trees at h
  obtain⟨x,r,A1,A2,rfl,h1,h2,rfl⟩:=h
  refine⟨A2,?_,eK _ _⟩
  rw [dH,dH]
  unfold Trees
  exact⟨y,r,[],A2,rfl,ty,h2,rfl⟩
 |e::ds,_,_,k+1,h=>by
  unfold Trees at h
  obtain⟨x,r,A1,A2,rfl,h1,h2,rfl⟩:=h
  obtain⟨A',t,sb⟩:=Trees.setI ty k h2
  refine⟨A1++A',?_,List.Sublist.append_left sb _⟩
  rw [dI,dI]
  unfold Trees
  exact⟨x,_,A1,A',rfl,h1,t,rfl⟩
section
variable{X:Cx}{H0:Hp}{B0:Addr->Prop}{fr:Bool}{RX:XR}{e ke je:Expr}{pos:Pos}{x:Str}{px p2 p3:Pos}
theorem s_st0{i:Nat}{fk fv:DE}(hx:PE X (.Name x px) (y1u i))(hk:PD X ke fk)(hv:PD X e fv)
  (ha:∀v,assign (.Subscript (.Name x px) ke p2) X.env v=(do
   let ov ←holding [v] (eval (.Name x px) X.env)
   let iv ←holding [v,ov] (eval ke X.env)
   standAt p2
   holding [v,ov,iv] (setItem ov iv v)
   release [v,ov,iv] []):=by intro _;rfl)
  (hs:swapsWithSole [.Subscript (.Name x px) ke p2] e pos.line X.env=pure false:=by rfl) (hw:swappedStores [.Subscript (.Name x px) ke p2] e X.env=pure none:=by rfl)
  (h1:(assignEach [.Subscript (.Name x px) ke p2] X.env).map (·.2)=[assign (.Subscript (.Name x px) ke p2) X.env]:=by rfl):
  PS X (.Assign [.Subscript (.Name x px) ke p2] e pos) (tS X.K H0 B0 fr RX (st0 i fk fv)):=
 PS.imp (x2q hv (x3d hx hk y3M ha) hs hw h1) fun D σ H ⟨δ,R,o,rs,q,kk⟩=>by
  unfold st0 at q
  cases e1:fv (z0u δ)with
  |none=>rw [e1]at q;cases q
  |some d=>
  rw [e1]at q
  have q:(if d.imm=true then(fk (z0u δ)).bind fun dk=>(match dk,δ[i]? with
   |.int k,some (some (.ow (.lst ds)))=>(ixN ds.length k).map fun j=>Out.nx ((z0z i δ).set i (some (.ow (.lst (ds.set j d)))))
   |_,_=>none)else none)=some o:=q
  split at q
  case isFalse=>cases q
  case isTrue hi=>
  cases e2:fk (z0u δ)with
  |none=>rw [e2]at q;cases q
  |some dk=>
  rw [e2]at q
  simp only [aq]at q
  split at q
  case h_2=>cases q
  case h_1=>
  rename_i k ds ei
  cases ej:ixN ds.length k with
  |none=>rw [ej]at q;cases q
  |some j=>
  rw [ej]at q
  cases q
  obtain⟨a,xs,A,ev,ha',ts,eR,nd⟩:=rs.top ei
  refine⟨noB,z0u δ,d,.no,rs.all,e1,fun v H1 s1 r1=>⟨.ref a,ev,noB,z0u δ,.int k,.no,rs.all.mono s1,e2,fun v2 H2 s2 r2=>?_⟩⟩
  cases (show v2=V.int k from r2)
  refine⟨a,xs,k,j,rfl,rfl,s2 _ _ (s1 _ _ ha'),by rw [←ts.length];exact ej,?_⟩
  obtain⟨A',t',sb⟩:=Trees.setI ((r1.immTree d hi).mono s2) j (ts.mono (s1.trans s2))
  have P:=rs.put0 (s1.trans s2) ei ev eR nd t' ((av.mp nd).2.sublist sb) fun b hb=>.inl (sb.subset hb)
  exact kk σ _ _ P.1 P.2
theorem s_st1{i:Nat}{fk fj fv:DE}(hx:PE X (.Name x px) (y1u i))(hk:PD X ke fk)(hj:PD X je fj)(hv:PD X e fv)(hpi:y2H ke:=by intro _ _;rfl)
  (ha:∀v,assign (.Subscript (.Subscript (.Name x px) ke p3) je p2) X.env v=(do
   let ov ←holding [v] (eval (.Subscript (.Name x px) ke p3) X.env)
   let iv ←holding [v,ov] (eval je X.env)
   standAt p2
   holding [v,ov,iv] (setItem ov iv v)
   release [v,ov,iv] []):=by intro _;rfl)
  (hs:swapsWithSole [.Subscript (.Subscript (.Name x px) ke p3) je p2] e pos.line X.env=pure false:=by rfl) (hw:swappedStores [.Subscript (.Subscript (.Name x px) ke p3) je p2] e X.env=pure none:=by rfl)
  (h1:(assignEach [.Subscript (.Subscript (.Name x px) ke p3) je p2] X.env).map (·.2)=[assign (.Subscript (.Subscript (.Name x px) ke p3) je p2) X.env]:=by rfl):
  PS X (.Assign [.Subscript (.Subscript (.Name x px) ke p3) je p2] e pos) (tS X.K H0 B0 fr RX (st1 i fk fj fv)):=
 PS.imp (x2q hv (x3d (pe_ix ix_list hx hk hpi) hj y3M ha) hs hw h1) fun D σ H ⟨δ,R,o,rs,q,kk⟩=>by
  unfold st1 at q
  cases e1:fv (z0u δ)with
  |none=>rw [e1]at q;cases q
  |some d=>
  rw [e1]at q
  have q:(if d.imm=true then(fk (z0u δ)).bind fun dk=>(fj (z0u δ)).bind fun dj=>(match dk,dj,δ[i]? with
   |.int k,.int j,some (some (.ow (.lst ds)))=>(ixN ds.length k).bind fun k'=>(match ds[k']? with
    |some (.lst es)=>if z1P es=true then(ixN es.length j).map fun j'=>Out.nx ((z0z i δ).set i (some (.ow (.lst (ds.set k' (.lst (es.set j' d)))))))else none
    |_=>none)
   |_,_,_=>none)else none)=some o:=q
  split at q
  case isFalse=>cases q
  case isTrue hi=>
  cases e2:fk (z0u δ)with
  |none=>rw [e2]at q;cases q
  |some dk=>
  cases e3:fj (z0u δ)with
  |none=>rw [e2,e3]at q;cases q
  |some dj=>
  rw [e2,e3]at q
  simp only [aq]at q
  split at q
  case h_2=>cases q
  case h_1=>
  rename_i k j ds ei
  cases ek:ixN ds.length k with
  |none=>rw [ek]at q;cases q
  |some k'=>
  rw [ek]at q
  have q:(match ds[k']? with
    |some (.lst es)=>if z1P es=true then(ixN es.length j).map fun j'=>Out.nx ((z0z i δ).set i (some (.ow (.lst (ds.set k' (.lst (es.set j' d)))))))else none
    |_=>none)=some o:=q
  split at q
  case h_2=>cases q
  case h_1 es ed=>
  split at q
  case isFalse=>cases q
  case isTrue hes=>
  cases ej:ixN es.length j with
  |none=>rw [ej]at q;cases q
  |some j'=>
  rw [ej]at q
  cases q
  obtain⟨a,xs,b,ys,ev,ha',hxb,hb,hln,_,_⟩:=rs.put1 (.refl H) ei ed hes
  have hat:atI xs k=some (.ref b):=by
   unfold atI
   rw [←hln,ek]
   exact hxb
  refine⟨noB,z0u δ,d,.no,rs.all,e1,fun v H1 s1 r1=>⟨.ref a,ev,noB,z0u δ,.int k,.no,rs.all.mono s1,e2,fun v2 H2 s2 r2=>?_⟩⟩
  cases (show v2=V.int k from r2)
  refine⟨a,xs,k,.ref b,rfl,rfl,SqL.of (s2 _ _ (s1 _ _ ha')),hat,noB,z0u δ,.int j,.no,(rs.all.mono s1).mono s2,e3,fun v3 H3 s3 r3=>?_⟩
  cases (show v3=V.int j from r3)
  obtain⟨a',xs',b',ys',ev',ha'',hxb',hb',_,tb,up⟩:=rs.put1 ((s1.trans s2).trans s3) ei ed hes
  rw [ev]at ev';cases ev'
  rw [ha']at ha'';cases ha''
  rw [hxb]at hxb';cases hxb'
  rw [hb]at hb';cases hb'
  refine⟨b,ys,j,j',rfl,rfl,s3 _ _ (s2 _ _ (s1 _ _ hb)),by rw [←tb.length];exact ej,?_⟩
  obtain⟨A',t',sb⟩:=Trees.setI (((r1.immTree d hi).mono s2).mono s3) j' tb
  have eA:A'=[]:=List.sublist_nil.mp sb
  subst eA
  have P:=up _ _ t'
  exact kk σ _ _ P.1 P.2
end
section
variable{X:Cx}{e a b:Expr}{lo hi:Option Expr}{p2 pos:Pos}
def cutL(ds:List D)(lo hi:Option Int):List D:=(ds.drop (HT.sIx ds.length 0 lo)).take (HT.sIx ds.length ds.length hi - HT.sIx ds.length 0 lo)
def dCut(f:DE)(fl fh:DS->Option (Option Int)):DS->Option (List D):=fun δ=>match f δ with
 |some (.lst ds)=>(fl δ).bind fun lo=>(fh δ).map fun hi=>cutL ds lo hi
 |some (.scr ns)=>(fl δ).bind fun lo=>(fh δ).map fun hi=>cutL (ns.map .int) lo hi
 |_=>none
end
section
variable{X:Cx}{pos:Pos}{x:Str}{iter elt:Expr}{N':List Str}{sc:Scope}{ifs:List Expr}{n:Nat}{px:Pos}{fi:DS->Option (List D)}{fc:DS->Option Bool}{fe:DE}
theorem y4l{σ:St}{H:Hp}{Q:VK}(hσ:σ.length=n)(hq:tN X.K (mkL (z0U fi fc fe)) σ H Q):y6N (tI X.K fi) (z2r n) (tT X.K fc) (tN X.K fe) 1 σ H Q:=by
 obtain⟨δ,d0,Sδ,q,k⟩:=hq
 unfold mkL at q
 cases eds:z0U fi fc fe δ with
 |none=>rw [eds]at q;cases q
 |some ds=>
 rw [eds]at q
 cases q
 unfold z0U at eds
 cases e1:fi δ with
 |none=>rw [e1]at eds;cases eds
 |some xs=>
 rw [e1]at eds
 have q1:(if xs.length≤sizeLine then z1p (fun x=>(fc (δ++[some x])).bind fun k=>if k=true then(fe (δ++[some x])).map some else some none) xs else none)=some ds:=eds
 split at q1
 case isFalse=>cases q1
 case isTrue hsz=>
 refine⟨noB,δ,xs,.no,Sδ,e1,fun J H1 s1 itw=>fun Da hD=>?_⟩
 have hD0:H Da=none:=s1.free hD
 have it:=itw (fun a=>H1 a=none) fun a ha=>ha
 refine⟨fun i m σ' H'=>m=xs.length - i∧i≤xs.length∧(∃w,σ'=σ++[w])∧Same H1 H'∧∃ys dn rs A,H' Da=some (.lst ys)∧Trees X.K H' dn ys A∧(Da::A).Nodup∧(∀a∈A,H1 a=none)∧ds=dn++rs∧dn.length≤i ∧
  z1p (fun x=>(fc (δ++[some x])).bind fun k=>if k=true then(fe (δ++[some x])).map some else some none) (xs.drop i)=some rs,
  ⟨xs.length,by simp,bX _,⟨none,rfl⟩,z0n hD,[],[],ds,[],z0m,.nil,av.mpr ⟨(fun z=>nomatch z),bi⟩,(fun a z=>nomatch z),rfl,ao _,q1⟩,?_⟩
 rintro i m σ' H' ⟨rfl,hi',⟨w,rfl⟩,sm,ys,dn,rs,A,hys,tys,nd,fr,hds,hln,hrs⟩
 have kp:Keep X.K (fun a=>noB a∨H1 a=none) H1 H':=.same sm
 by_cases hlt:i<xs.length
 ·refine .inr ⟨it.go i H' kp hlt,fun σ'' H''=>(i+1≤xs.length∧(∃w,σ''=σ++[w])∧Same H1 H''∧∃ys dn rs A,H'' Da=some (.lst ys)∧Trees X.K H'' dn ys A∧(Da::A).Nodup∧(∀a∈A,H1 a=none)∧ds=dn++rs∧dn.length≤i+1 ∧
   z1p (fun x=>(fc (δ++[some x])).bind fun k=>if k=true then(fe (δ++[some x])).map some else some none) (xs.drop (i+1))=some rs),fun σ'' H'' h=>⟨xs.length - (i+1),by omega,rfl,h⟩,fun xv H2 hy=>?_⟩
  obtain⟨s2,d,hd,rd⟩:=it.yld i H' xv H2 kp hy
  have hdi:=hd hlt
  have hx:xs.drop i=d::xs.drop (i+1):=by
   obtain⟨hl,e⟩:=aX.mp hdi
   rw [bx hl,e]
  rw [hx]at hrs
  obtain⟨o,rs',e2,e3,e4⟩:=z5L hrs
  show tT X.K fc ((σ++[w]).set n (some xv)) H2 _
  rw [←hσ,z9I]
  have S2:RepS X.K H2 noB (σ++[some xv]) (δ++[some d]):=(((Sδ.mono s1).mono sm).mono s2).snoc (rd.anti fun a z=>z.elim)
  have hl2:ys.length<sizeLine:=by
   have:=tys.length
   omega
  cases ec:fc (δ++[some d])with
  |none=>rw [ec]at e2;cases e2
  |some kk=>
   rw [ec]at e2
   have e2':(if kk=true then(fe (δ++[some d])).map some else some none)=some o:=e2
   refine⟨noB,δ++[some d],kk,.no,S2,ec,fun H3 s3=>?_⟩
   cases kk with
   |false=>
    rw [if_neg ar]at e2'
    rw [if_neg ar]
    cases e2'
    exact⟨hlt,⟨_,rfl⟩,(sm.trans s2).trans s3,ys,dn,rs',A,s3 _ _ (s2 _ _ hys),(tys.mono s2).mono s3,nd,fr,by rw [hds,e4];rfl,dU hln,e3⟩
   |true=>
    rw [if_pos rfl]at e2'
    rw [if_pos rfl]
    cases ey:fe (δ++[some d])with
    |none=>rw [ey]at e2';cases e2'
    |some y=>
     rw [ey]at e2'
     cases e2'
     refine⟨δ++[some d],y,S2.mono s3,ey,fun yv H5 A5 s5 t5 nd5 fr5=>⟨ys,s5 _ _ (s3 _ _ (s2 _ _ hys)),hl2,?_⟩⟩
     have s15:Same H' H5:=(s2.trans s3).trans s5
     have hu:H5 Da=some (.lst ys):=s15 _ _ hys
     have mu:Mut (H5 Da):=by rw [hu];exact trivial
     have hDa3:H3 Da=some (.lst ys):=s3 _ _ (s2 _ _ hys)
     have nDa:Da∉A++A5:=fun z=>by
      rcases ay.mp z with z | z
      ·exact(av.mp nd).1 z
      ·have:=fr5 Da z
       rw [hDa3]at this;cases this
     refine⟨hlt,⟨_,rfl⟩,fun b u hb=>?_,ys++[yv],dn++[y],rs',A++A5,z0m,?_,av.mpr ⟨nDa,?_⟩,fun a ha=>?_,by rw [hds,e4,aZ];rfl,by rw [aF];simp;omega,e3⟩
     ·rw [z0q (z1e hb hD)]
      exact s15 _ _ (sm _ _ hb)
     ·refine Trees.keep (Keep.upd (K:=X.K) (B:=fun x=>x=Da) rfl mu).i _ ((tys.mono s15).snoc t5) fun b hb u q=>?_
      have ne:b≠Da:=fun z=>nDa (z ▸ hb)
      rw [z0q ne];exact q
     ·refine bf.mpr ⟨(av.mp nd).2,nd5,fun b hb c hc z=>?_⟩
      subst z
      obtain⟨u,q,_⟩:=Trees.held _ tys b hb
      have:=fr5 b hc
      rw [(s2.trans s3) _ _ q]at this;cases this
     ·rcases ay.mp ha with z | z
      ·exact fr a z
      ·exact sm.free ((s2.trans s3).free (fr5 a z))
 ·have e:i=xs.length:=by omega
  subst e
  refine .inl ⟨it.stop _ H' kp (ao _),?_⟩
  rw [ci]at hrs
  cases hrs
  rw [aP]at hds
  subst hds
  refine k (.ref Da) H' (Da::A) (s1.trans sm) ?_ nd fun a ha=>?_
  ·unfold Tree
   exact⟨Da,ys,A,rfl,hys,tys,rfl⟩
  ·rcases ai.mp ha with z | z
   ·rw [z];exact hD0
   ·exact s1.free (fr a z)
theorem z2H(hc:X.calm=true)(S:CompScope X.N X.env.scope.names N' 1 sc)(hn:n=X.N.length)(hi:PID X (.Name x px) iter fi)
  (hg:∀s H fp pins E,PG (z0F X N' sc s H fp pins E) (.Name x px) (z2r n)) (ht:∀s H fp pins E,y7f (z0F X N' sc s H fp pins E) ifs (tT X.K fc)) (he:∀s H fp pins E,PE (z0F X N' sc s H fp pins E) elt (tN X.K fe))
  (hs:∀x,foldedSetIterable iter X.env x=pure x:=by intro _;rfl):PN X (.ListComp elt [⟨.Name x px,iter,ifs,0⟩] sc pos) (mkL (z0U fi fc fe)):=by
 intro pins s σ H Q I hq
 exact y2d hc S hi ⟨hg,ht,he⟩ hs pins s σ H Q I (y4l (by rw [hn,I.len]) hq)
theorem pas_cN{i:Nat}{y:Str}{py spos:Pos}(hN:X.N.Nodup)(hy:X.N[i]? = some y)(hyl:X.env.scope.names.lookup y=some .local)(hc:X.calm=true)(S:CompScope X.N X.env.scope.names N' 1 sc)(hn:n=X.N.length)(hi:PID X (.Name x px) iter fi)
  (hg:∀s H fp pins E,PG (z0F X N' sc s H fp pins E) (.Name x px) (z2r n)) (ht:∀s H fp pins E,y7f (z0F X N' sc s H fp pins E) ifs (tT X.K fc)) (he:∀s H fp pins E,PE (z0F X N' sc s H fp pins E) elt (tN X.K fe))
  (hsw:swapsWith (.ListComp elt [⟨.Name x px,iter,ifs,0⟩] sc pos) (some (.Name y py)) spos.line X.env=pure true:=by rfl) (hs:∀x,foldedSetIterable iter X.env x=pure x:=by intro _;rfl):
  PS X (.Assign [.Name y py] (.ListComp elt [⟨.Name x px,iter,ifs,0⟩] sc pos) spos) (tAsg (tN X.K (mkL (z0U fi fc fe))) (z2r i)):=by
 intro pins s σ H D I hq
 exact y8f hc S hN hy hyl hi ⟨hg,ht,he⟩ hsw hs pins s σ H D I (y4l (by rw [hn,I.len]) hq)
end
end L2
namespace L2
open PySem PySem.Spec PyProof.Rows
section
variable{X:Cx}{a b:Expr}{pos:Pos}{f g:DE}
def y9r:D->D->Option D:=iop fun i j=>some (.int (i+j))
def subI:D->D->Option D:=iop fun i j=>some (.int (i - j))
def mulI:D->D->Option D:=iop fun i j=>if CMul i j then some (.int (i*j))else none
def x0e:D->D->Option D:=iop fun i j=>if CDiv i j then some (.int (i / j))else none
def z6v:D->D->Option D:=iop fun i j=>if 0<j then some (.int (i % j))else none
def ltI:D->D->Option D:=iop fun i j=>some (.bl (decide (i<j)))
def leI:D->D->Option D:=iop fun i j=>some (.bl (decide (i≤j)))
def gtI:D->D->Option D:=iop fun i j=>some (.bl (decide (j<i)))
theorem z5m(ha:PD X a f)(hb:PD X b g):PD X (.BinOp a .Add b pos) (d2 y9r f g):=y1I op_add y7Y ha hb
theorem y3R(ha:PD X a f)(hb:PD X b g):PD X (.BinOp a .Sub b pos) (d2 subI f g):=y1I op_sub y7Y ha hb
theorem pd_mul(ha:PD X a f)(hb:PD X b g):PD X (.BinOp a .Mult b pos) (d2 mulI f g):=y1I op_mul y0H ha hb
theorem y3X(ha:PD X a f)(hb:PD X b g):PD X (.BinOp a .FloorDiv b pos) (d2 x0e f g):=y1I op_fdiv y0H ha hb
theorem z3Q(ha:PD X a f)(hb:PD X b g):PD X (.BinOp a .Mod b pos) (d2 z6v f g):=y1I op_mod y0H ha hb
theorem pd_lt(ha:PD X a f)(hb:PD X b g):PD X (.Compare a [.Lt] [b] pos) (d2 ltI f g):=x2Q op_lt z4X ha hb (z8A _)
theorem y7O(hu:X.A.units+64<cLine)(ha:PD X a f)(hb:PD X b g):PD X (.Compare a [.Eq] [b] pos) (d2 eqD f g):=x2Q (x2l hu) o2_eq ha hb (z8A _)
theorem x1G(ha:PD X a f)(hb:PD X b g):PTD X (.Compare a [.Lt] [b] pos) (z0M (d2 ltI f g)):=z5s op_lt z4X ha hb (z8A _)
theorem pt_gt(ha:PD X a f)(hb:PD X b g):PTD X (.Compare a [.Gt] [b] pos) (z0M (d2 gtI f g)):=z5s op_gt z4X ha hb (z8A _)
theorem z6O(hu:X.A.units+64<cLine)(ha:PD X a f)(hb:PD X b g):PTD X (.Compare a [.Eq] [b] pos) (z0M (d2 eqD f g)):=z5s (x2l hu) o2_eq ha hb (z8A _)
theorem x0H(hu:X.A.units+64<cLine)(ha:PD X a f)(hb:PD X b g):PTD X (.Compare a [.NotEq] [b] pos) (z0M (d2 neD f g)):=z5s (op_neD hu) o2_ne ha hb (z8A _)
theorem x1D(hu:X.A.units+64<cLine)(ha:PD X a f)(hb:PD X b g)(hm:behindInMarks .In b=false:=by rfl):PTD X (.Compare a [.In] [b] pos) (z0M (d2 inD f g)):=z5s (op_inD hu) o2_in ha hb hm
theorem x0b(hu:X.A.units+64<cLine)(ha:PD X a f)(hb:PD X b g)(hm:behindInMarks .NotIn b=false:=by rfl):PTD X (.Compare a [.NotIn] [b] pos) (z0M (d2 y6L f g)):=z5s (op_ninD hu) o2_nin ha hb hm
end
section
variable{P:Program}{w:World}{K:aa}{mg:Str->Option Value}{base:Heap}
end
section
variable{X:Cx}{H0:Hp}{B0:Addr->Prop}{fr:Bool}{RX:XR}{e:Expr}{es:List Expr}{pos p px px2 cp:Pos}{x fn:Str}{k:Nat}{F:List D->Option D}{fl:List DE}
end
def x2c(K:aa)(F:List D->Option D):Sp:=fun vs H Q _=>∃(a:Addr) (ns:List Int),vs=[.ref a]∧SqF K H a (ns.map V.int)∧F [.scr ns]=some (.bl true)∧∀H',Q (.bl true) H'
theorem x0x{K:aa}{H:Hp}{a:Addr}{xs:List V}(hO:Only H)(h:SqL K H a xs):SqF K H a xs:=by
 rcases h with (h | h) | h
 ·rcases hO a with z | ⟨o,ys,z⟩ <;> (rw [h]at z;cases z)
 ·exact .inl h
 ·exact .inr h
theorem law_of{P:Program}{w:World}{K:aa}{mg:Str->Option Value}{base:Heap}{k:Nat}{f:Addr}{fd:FuncData}{ps:List Str}{F:List D->Option D}(h:FnOk P w K mg base CX0 k f fd ps (spN K F)):FnOk P w K mg base CX0 k f fd ps (x2c K F):=by
 refine h.imp fun vs H Q E z=>?_
 obtain⟨a,ns,rfl,hq,e,q⟩:=z
 refine⟨[.scr ns],.bl true,.cons ?_ .nil,e,fun v H' A s t nd fr=>?_⟩
 ·unfold Rep
  exact⟨a,rfl,hq⟩
 ·cases (show v=V.bl true∧_ from t).1
  exact q H'
end L2
namespace L2
open PySem PySem.Spec PyProof.Rows
section
variable{X:Cx}{H0:Hp}{B0:Addr->Prop}{fr:Bool}{RX:XR}{e e2:Expr}{pos ap cp:Pos}{x:Str}{px:Pos}{f g:DE}
def y2u(i:Nat)(f:DE):SS->Option Out:=fun δ=>(f (z0u δ)).bind fun d=>(match δ[i]? with
 |some (some (.ow (.lst ds)))=>(z9a ds [d]).map fun ds'=>.nx ((z0z i δ).set i (some (.ow (.lst ds'))))
 |_=>none)
theorem z7E{i:Nat}(hx:PE X (.Name x px) (y1u i))(he:PN X e f)(hbase:attributeBase (.Name x px) "append" X.env (eval (.Name x px) X.env)=eval (.Name x px) X.env:=by rfl)
  (hfew:((backTo cp (starEach [e] X.env)).all (fun x=>!x.1)&&(backToKw cp (keywordEach [] X.env)).all (fun x=>x.1.isSome)&&decide ([e].length+([]:List Keyword).length+(if([]:List Keyword).isEmpty then 0 else 1)<30))=true:=by rfl)
  (hline:(ap.endLine==cp.line)=true:=by rfl) (hs:starEach [e] X.env=(false,eval e X.env)::starEach [] X.env:=by rfl) (hsw:swapsWith (.Call (.Attribute (.Name x px) "append" ap) [e] [] cp) none pos.line X.env=pure false:=by rfl):
  PS X (.Expr (.Call (.Attribute (.Name x px) "append" ap) [e] [] cp) pos) (tS X.K H0 B0 fr RX (y2u i f)):=
 PS.imp (z6V (x0U PySem.F.plainAttrs_list PySem.F.slot_list_append PySem.F.type_list_append z4S hx (z1V he pa_nil hs) hbase hfew hline hs rfl) hsw) fun D σ H ⟨δ,R,o,rs,q,k⟩=>by
  unfold y2u at q
  cases e1:f (z0u δ)with
  |none=>rw [e1]at q;cases q
  |some d=>
  rw [e1]at q
  simp only [aq]at q
  split at q
  case h_2=>cases q
  case h_1=>
  rename_i ds ei
  cases e2:z9a ds [d]with
  |none=>rw [e2]at q;cases q
  |some ds'=>
  rw [e2]at q
  cases q
  obtain⟨a,xs,A,ev,ha,ts,eR,nd⟩:=rs.top ei
  refine⟨.ref a,ev,.inl ⟨rfl,xs,SqL.of ha⟩,z0u δ,d,rs.all,e1,fun y H2 C s2 t2 nC fC=>?_⟩
  show z8N (.ref a) [y] H2 fun _ H1=>D.nx σ H1
  refine z7b (K:=X.K) H2 a xs ds [d] [y] ds' _ (s2 _ _ ha) ts.length (.one (t2.rep d (fun _ _ z=>z.elim))) e2 fun w xs' up=>?_
  obtain⟨A',t',n',sub⟩:=up H2 A C (ts.mono s2) (.one t2)
  have hAC:(A++C).Nodup:=bf.mpr ⟨(av.mp nd).2,nC,fun b hb c hc z=>by
   subst z
   obtain⟨u,q,_⟩:=Trees.held ds ts b hb
   rw [fC b hc]at q;cases q⟩
  have P:=rs.put0 s2 ei ev eR nd t' (n' hAC) fun b hb=>(sub b hb).imp id fun z=>fC b z
  exact k σ _ _ P.1 P.2
end
end L2
namespace L2
open PySem PySem.Spec PyProof.Rows
open PySem.MeetsSeq PySem.MeetsSeq2 PySem.MeetsSeq3 PySem.SeqRoads2 PySem.SeqAt
open PySem.AutoSeq1 (wpAny_loadPart')
section
variable{X:Cx}
theorem Inv.tupleO{pins:List (Addr×Obj)}{σ:St}{H:Hp}{s:Shared}{a:Addr}{xs:List V}(I:Inv X pins σ H s)(h:SqT X.K H a xs):∃(its:List Value) (ob:Obj) (n:Nat),Vals xs its∧s.heap.get? a=some ob∧ob.cls = .type "tuple" ∧ ob.dict=none∧ob.data = .seq its.toArray n∧xs.length≤sizeLine:=by
 rcases h with h | ⟨o,its,n,hk,hc,hs,hz,r⟩
 ·obtain⟨z,its,r,ob,e,c,n,hd⟩:=h.ok I.hok
  exact⟨its,ob,n,r,e,c.1,c.2,hd,z⟩
 ·refine⟨its.toList,o,n,r,I.kIn a o hk,hc.1,hc.2,by simpa using hs,?_⟩
  have e:=r.length
  simp only [b9]at e
  omega
variable{o e:Expr}{es:List Expr}{to:TE}{t:TA}{name:Str}{apos cpos:Pos}{id:String}{r:V->List V->Hp->VK->Prop}
theorem y1w:∀{ds:List D} {ns:List Int},z1A ds=some ns->ds=ns.map D.int
 |[],ns,h=>by cases h;rfl
 |.int i::r,ns,h=>by
  unfold z1A at h
  cases e:z1A r with
  |none=>rw [e]at h;cases h
  |some ms=>rw [e]at h;cases h;rw [aG,y1w e]
 |.non::_,_,h=>by cases h
 |.bl _::_,_,h=>by cases h
 |.str _::_,_,h=>by cases h
 |.lst _::_,_,h=>by cases h
 |.tup _::_,_,h=>by cases h
 |.scr _::_,_,h=>by cases h
 |.dct _ _::_,_,h=>by cases h
 |.exc _::_,_,h=>by cases h
 |.obj _ _ _ _::_,_,h=>by cases h
 |.cel _ _::_,_,h=>by cases h
theorem z9K{K:aa}{H:Hp}{B:Addr->Prop}:∀{ns:List Int} {xs:List V},Reps K H B (ns.map D.int) xs->xs=ns.map V.int
 |[],_,h=>by unfold Reps at h;exact h
 |n::ns,_,h=>by
  rw [aG]at h
  unfold Reps at h
  obtain⟨x,r,rfl,h1,h2⟩:=h
  unfold Rep at h1
  rw [h1,z9K h2]
  rfl
end
end L2
namespace L2
open PySem PySem.Spec PyProof.Rows
open PySem.AutoSeq1 (wpAny_loadPart')
section
variable{prog:Program}{w:World}{A:Around}{E:Value->Shared->Prop}{s:Shared}
end
section
variable{X:Cx}
variable{a b:Expr}{f g:DE}{p p2 pos pos2:Pos}
end
end L2
namespace L2
open PySem PySem.Spec PyProof.Rows
section
variable{X:Cx}{pins:List (Addr×Obj)}{σ:St}{H:Hp}{s:Shared}{h':Heap}
theorem Inv.turnedL{t':Nat}{fp:List Addr}(I:Inv X pins σ H s)(k:∀b o,b∉fp->s.heap.get? b=some o->h'.get? b=some o)(hf:∀b∈fp,y0M X pins H b):Inv X pins σ H { s with heap:=h',toks:=t' }:=by
 have nit:∀b u,H b=some u->b∉fp:=fun b u e z=>by rw [(hf b z).1]at e;cases e
 have nL:X.env.locals∉fp:=fun z=>(hf _ z).2.1 rfl
 refine I.step (g':=s.gens) (d':=s.drawn) (ch:=fp) (fun b hb=>?_) (fun b o _ _ hc e _=>k b o hc e) (fun b o _ _ hc e _=>⟨o.slots,k b o hc e⟩) (fun _ _ _ _ n=>n)
  (fun b o hc e=>⟨o,k b o hc e⟩) (fun _ _ e=>e) (fun _ _ _ e=>e) (fun b ps e=>⟨#[],by rw [e];simp⟩) (fun m hm=>?_) (fun b u e=>?_) I.bare
 ·obtain⟨f0,f1,f2,f3,f4,f5⟩:=hf b hb
  exact⟨f3,f1,f4,f5⟩
 ·obtain⟨o,es,ep,ho,r⟩:=hm
  exact⟨o,es,ep,k _ o nL ho,r⟩
 ·refine(I.hok b u e).stay (fun c v hc q=>k c v ?_ q) (fun _ q=>q) fun _ _ q=>q
  rcases hc with z | z
  ·rw [z];exact nit b u e
  ·exact nit c _ z
def Ite(K:aa)(a:Addr):It:=
 ⟨fun i H=>∃xs x,SqL K H a xs∧xs[i]? = some x,fun i H v H'=>∃p x,H p=none∧v = .ref p∧H'=upd H p (.tup [.int (i:Nat),x])∧∀xs,SqL K H a xs->xs[i]? = some x,fun i H=>∃xs,SqL K H a xs∧xs.length≤i⟩
theorem y9v{P:Program}{w:World}{K:aa}{elts:List Expr}{x1}{tp:Pos}(a e it:Addr)(hne:e≠it):
  Turn P w K (.Tuple elts x1 tp) (Ite K a) [e,it] e (fun i h=>(∃old,IsEnum h e it ((i:Nat):Int) old)∧h.IsListIter it a i) where
 mem:=by simp
 obj:=fun i h st b hb=>by
  obtain⟨⟨old,he⟩,o,eo,c,d⟩:=st
  rcases ai.mp hb with z | z
  ·subst z
   exact⟨_,he,fun v z=>by cases z⟩
  ·have z:b=it:=by simpa using z
   subst z
   exact⟨o,eo,fun v z=>by rw [d]at z;cases z⟩
 keep:=fun i h h' st k=>by
  obtain⟨⟨old,he⟩,hi⟩:=st
  exact⟨⟨old,k e (by simp) _ he⟩,hi.at fun o q=>k it (by simp) o q⟩
 item:=by
  intro X hP hw hK hc i pins s σ H E I hf st hg
  subst hP hw hK
  obtain⟨xs,x,hq,hx⟩:=hg
  obtain⟨its,rv,p,hz⟩:=I.list hq
  obtain⟨u,hu,ru⟩:=rv.get hx
  obtain⟨⟨old,he⟩,hi⟩:=st
  refine wpAny_pyNext_enum_item he hi p.isList (x:=u) (by simpa using hu) hne fun h1 heo hi1 ht1 hz1 hk1=>⟨_,rfl,?_⟩
  refine wpAny_letOwnedTupleGo_enum heo fun h2 he2 hs2=>?_
  have hs2:Heap.SameBut e h1 h2:=hs2
  have elt:e<s.heap.objs.size:=Heap.lt_size he
  obtain⟨oi,eoi,_⟩:=id hi
  have ilt:it<s.heap.objs.size:=Heap.lt_size eoi
  have hp:H s.heap.objs.size=none:=I.hok.fresh (ao _)
  have I1:Inv X pins σ (upd H s.heap.objs.size (.tup [.int (i:Nat),x])) { s with heap:=s.heap.push { cls:=.type "tuple",data:=.seq #[.int (i:Nat) s.toks,u] },toks:=s.toks+1 }:=
   I.laid (fun b o q=>Heap.get?_push_of_some _ q) (ao _) (show ObjOk X.prog X.w _ _ _ (.tup [.int (i:Nat),x]) from⟨by show 2≤sizeLine;rw [sizeLine_eq];decide,[.int (i:Nat) s.toks,u],.cons ⟨_,rfl⟩ (.cons ru .nil),TupN.new _ _⟩)
  have hf1:∀b∈[e,it],y0M X pins (upd H s.heap.objs.size (.tup [.int (i:Nat),x])) b:=fun b hb=>by
   obtain⟨f0,f⟩:=hf b hb
   refine⟨?_,f⟩
   have:b≠s.heap.objs.size:=by
    rcases ai.mp hb with z | z
    ·rw [z];exact aC elt
    ·have z:b=it:=by simpa using z
     rw [z];exact aC ilt
   rw [z0q this]
   exact f0
  have kk:∀b o,b∉[e,it]->(s.heap.push { cls:=.type "tuple",data:=.seq #[.int (i:Nat) s.toks,u] }).get? b=some o->h2.get? b=some o:=by
   intro b o hb q
   have hbe:b≠e:=fun z=>hb (by simp [z])
   have hbi:b≠it:=fun z=>hb (by simp [z])
   rw [hs2.2 b hbe]
   by_cases hbs:b=s.heap.objs.size
   ·subst hbs
    rw [ht1]
    have:(s.heap.push { cls:=.type "tuple",data:=.seq #[.int (i:Nat) s.toks,u] }).get? s.heap.objs.size=some { cls:=.type "tuple",data:=.seq #[.int (i:Nat) s.toks,u] }:=Heap.get?_push_size _ rfl
    exact this.symm.trans q
   ·have q':s.heap.get? b=some o:=(Heap.get?_push_ne s.heap _ _ hbs).symm.trans q
    exact hk1 b o hbe hbi q'
  have I2:Inv X pins σ (upd H s.heap.objs.size (.tup [.int (i:Nat),x])) { s with heap:=h2,toks:=s.toks+1 }:=Inv.turnedL (s:={ s with heap:=s.heap.push { cls:=.type "tuple",data:=.seq #[.int (i:Nat) s.toks,u] },toks:=s.toks+1 }) (h':=h2) (t':=s.toks+1) (fp:=[e,it]) I1 kk hf1
  refine⟨.ref s.heap.objs.size,_,I2,rfl,⟨_,x,hp,rfl,rfl,fun ys hy=>by rw [I.list_inj hy hq];exact hx⟩,⟨⟨u,?_⟩,?_⟩,fun b hb=>(hf1 b hb).1⟩
  ·have:(((i+1:Nat):Int))=((i:Int)+1):=by omega
   rw [this]
   exact he2
  ·exact hi1.at fun o q=>(hs2.2 it (Ne.symm hne)).trans q
 done:=by
  intro X hP hw hK hc i pins s σ H E I hf st hg
  subst hP hw hK
  obtain⟨xs,hq,hx⟩:=hg
  obtain⟨its,rv,p,hz⟩:=I.list hq
  obtain⟨⟨old,he⟩,hi⟩:=st
  have hl:=rv.length
  exact wpAny_pyNext_enum_end (I.ok.hd hc) he hi p.isList (by simp;omega) fun h' eb=>⟨rfl,I.turnedL (t':=s.toks) (fp:=[e,it]) (fun b o hb q=>eb b o (fun z=>hb (by simp [z])) q) hf⟩
 self:=fun _ _ _ _ _ st h=>let⟨⟨_,he⟩,_⟩:=st;wpAny_pyIter_enum he h
def iEnum(K:aa)(tl:TE):TI:=fun σ H R=>tl σ H fun x H1=>∃a,[x]=[V.ref a]∧(∃xs,SqL K H1 a xs)∧R (Ite K a) H1
theorem pi_enum{elts:List Expr}{x1}{tp p pos:Pos}{l:Expr}{tl:TE}(hg:Gl X "enumerate")(hm:X.mg "enumerate" = none)(hl:PE X l tl)(hs:starEach [l] X.env=[(false,eval l X.env)]:=by rfl):
  PI X (.Tuple elts x1 tp) (.Call (.Name "enumerate" p) [l] [] pos) (iEnum X.K tl):=by
 intro pins s σ H R I h
 have hA:PA X [l] (fun σ H Q=>tl σ H fun x H1=>Q [x] H1):=(z1V hl pa_nil (by rw [hs];rfl)).imp fun σ H Q q=>q
 refine wpAny_Call_Name_kw (z4r I hg hm boot_enumerate (PyProof.Rows.callWith_type1 (thn (hA pos pins s σ H (fun vs H1=>∃a,vs=[V.ref a]∧(∃xs,SqL X.K H1 a xs)∧R (Ite X.K a) H1) I h) fun us s1 ⟨vs,H1,I1,r1,q1⟩=>?_) hs rfl))
 obtain⟨a,rfl,⟨xs,hq⟩,q⟩:=q1
 obtain⟨u,rfl,ru⟩:=r1.one
 cases ru
 obtain⟨its,rv,pl,hz⟩:=I1.list hq
 refine call_enumerate_list pl.isList fun h1 he hi hsz kp=>?_
 refine wpAny_pyIter_enum he ?_
 have I2:Inv X pins σ H1 { s1 with heap:=h1 }:=I1.kept (t':=s1.toks) kp
 refine⟨s1.heap.objs.size+1,[s1.heap.objs.size+1,s1.heap.objs.size],_,_,H1,rfl,I2,y9v a _ _ (Nat.succ_ne_self _),⟨⟨_,he⟩,hi⟩,fun b hb=>?_,q⟩
 have hb':s1.heap.objs.size≤b:=by
  rcases ai.mp hb with z | z
  ·rw [z];exact cN _
  ·have z:b=s1.heap.objs.size:=by simpa using z
   rw [z];exact ao _
 exact I1.fpOk hb' (I1.hok.fresh hb')
end
def z0s(k:Nat):List D->List D
 |[]=>[]
 |d::r=>.tup [.int (k:Nat),d]::z0s (k+1) r
theorem y3l:∀{ds:List D} {k i:Nat},(z0s k ds)[i]? = (ds[i]?).map fun d=>.tup [.int ((k+i:Nat):Int),d]
 |[],_,_=>by simp [z0s]
 |d::r,k,0=>by simp [z0s]
 |d::r,k,i+1=>by
  show(z0s (k+1) r)[i]? = (r[i]?).map _
  rw [y3l]
  congr 1
  funext d
  congr 3
  omega
theorem z9L:∀{ds:List D} {k:Nat},(z0s k ds).length=ds.length
 |[],_=>rfl
 |d::r,k=>by show(z0s (k+1) r).length+1=r.length+1;rw [z9L]
theorem y3g{K:aa}{H:Hp}{B:Addr->Prop}{a:Addr}{xs:List V}{ds:List D}(hs:∀H',Keep K B H H'->SqL K H' a xs)(r:Reps K H B ds xs):ItD K (Ite K a) H B (z0s 0 ds):=by
 have hl:=r.length
 refine⟨fun i H' kp hi=>?_,fun i H' kp hi=>?_,fun i H' v H2 kp hy=>?_⟩
 ·rw [z9L,hl]at hi
  exact⟨xs,xs[i],hs H' kp,ac hi⟩
 ·rw [z9L,hl]at hi
  exact⟨xs,hs H' kp,hi⟩
 ·obtain⟨p,x,hp,rfl,rfl,hx⟩:=hy
  have hx:=hx xs (hs H' kp)
  obtain⟨d,e,rd⟩:=(Reps.keep kp ds r).get' hx
  refine⟨z0n hp,.tup [.int (i:Nat),d],fun _=>by rw [y3l,e];simp,?_⟩
  unfold Rep
  exact⟨p,_,rfl,SqT.of z0m,.cons (by unfold Rep;rfl) (.one (rd.mono (z0n hp)))⟩
def y2E:D->Option (List D)
 |.lst ds=>some (z0s 0 ds)
 |.scr ns=>some (z0s 0 (ns.map .int))
 |_=>none
def y4Q(f:DE):DS->Option (List D):=fun δ=>(f δ).bind y2E
section
variable{X:Cx}
theorem z9C{elts:List Expr}{x1}{tp p pos:Pos}{l:Expr}{f:DE}(hg:Gl X "enumerate")(hm:X.mg "enumerate" = none)(h:PD X l f)(hs:starEach [l] X.env=[(false,eval l X.env)]:=by rfl):
  PID X (.Tuple elts x1 tp) (.Call (.Name "enumerate" p) [l] [] pos) (y4Q f):=(pi_enum hg hm h hs).imp fun σ H R ⟨B,δ,ds,hB,S,q,k⟩=>by
 unfold y4Q at q
 cases e:f δ with
 |none=>rw [e]at q;cases q
 |some d=>
  rw [e]at q
  have q':y2E d=some ds:=q
  refine⟨B,δ,d,hB,S,e,fun v H1 s1 r1=>?_⟩
  unfold y2E at q'
  split at q'
  ·cases q'
   unfold Rep at r1
   obtain⟨a,xs,rfl,n,h,r⟩:=r1
   refine⟨a,rfl,⟨xs,SqL.of h⟩,k _ H1 s1 fun C hC=>?_⟩
   have na:¬ (B a∨C a):=fun z=>z.elim n fun z=>by rw [hC a z]at h;cases h
   exact y3g (xs:=xs) (fun H' kp=>SqL.of (kp.sl a xs na h)) (Reps.wide hC _ r)
  ·cases q'
   unfold Rep at r1
   obtain⟨a,rfl,h⟩:=r1
   exact⟨a,rfl,⟨_,h.sq⟩,k _ H1 s1 fun C hC=>y3g (fun H' kp=>(kp.sf a _ h).sq) (z1K _)⟩
  ·cases q'
def two(h:D->D->Option (Option D)):D->Option (Option D)
 |.tup [a,b]=>h a b
 |_=>none
def z4m(fc:DS->Option Bool)(fe:DE)(δ:DS):D->D->Option (Option D):=fun a b=>(fc (δ++[some a,some b])).bind fun k=>if k=true then(fe (δ++[some a,some b])).map some else some none
def z7A(fi:DS->Option (List D))(fc:DS->Option Bool)(fe:DE):DS->Option (List D):=fun δ=>(fi δ).bind fun xs=>if xs.length≤sizeLine then z1p (two (z4m fc fe δ)) xs else none
theorem x0s{h:D->D->Option (Option D)}{d:D}{o:Option D}(e:two h d=some o):∃a b,d = .tup [a,b]∧h a b=some o:=by
 unfold two at e
 split at e
 ·exact⟨_,_,rfl,e⟩
 ·cases e
theorem y1E{v1 v2 w1 w2:Option V}:∀{σ:St},((σ++[w1,w2]).set σ.length v1).set (σ.length+1) v2=σ++[v1,v2]
 |[]=>rfl
 |x::r=>congrArg (x :: ·) (y1E (σ:=r))
theorem RepS.snoc2{K:aa}{H:Hp}{B:Addr->Prop}{σ:St}{δ:DS}{d e:D}{v w:V}(S:RepS K H B σ δ)(r:Rep K H B d v)(r':Rep K H B e w):RepS K H B (σ++[some v,some w]) (δ++[some d,some e]):=by
 have:=(S.snoc r).snoc r'
 rw [aZ,aZ]at this
 exact this
variable{N':List Str}{sc:Scope}{iter elt:Expr}{ifs:List Expr}{n:Nat}{x y:Str}{px py tp pos:Pos}{x1:Nat}{fi:DS->Option (List D)}{fc:DS->Option Bool}{fe:DE}
def gTwo(K:aa)(n:Nat):TG:=gTup K 2 (y6M (z2r n) (y6M (z2r (n+1)) gNil))
theorem y6C{σ:St}{H:Hp}{Q:VK}(hσ:σ.length=n)(hq:tF X.K (z7A fi fc fe) σ H Q):y6N (tI X.K fi) (gTwo X.K n) (tT X.K fc) (tD X.K fe) 2 σ H Q:=by
 obtain⟨B,δ,ds,hB,Sδ,q,k⟩:=hq
 unfold z7A at q
 cases e1:fi δ with
 |none=>rw [e1]at q;cases q
 |some xs=>
 rw [e1]at q
 have q1:(if xs.length≤sizeLine then z1p (two (z4m fc fe δ)) xs else none)=some ds:=q
 split at q1
 case isFalse=>cases q1
 case isTrue hsz=>
 refine⟨B,δ,xs,hB,Sδ,e1,fun J H1 s1 itw=>fun Da hD=>?_⟩
 have hD0:H Da=none:=s1.free hD
 have it:=itw (fun a=>a=Da) fun a ha=>by rw [ha];exact hD
 have Sw:RepS X.K H1 (fun a=>B a∨a=Da) σ δ:=(Sδ.mono s1).wide fun a ha=>by rw [ha];exact hD
 refine⟨fun i m σ' H'=>m=xs.length - i∧i≤xs.length∧(∃w w',σ'=σ++[w,w'])∧Same H1 H'∧∃ys dn rs,H' Da=some (.lst ys)∧Reps X.K H' (fun a=>B a∨a=Da) dn ys∧ds=dn++rs∧dn.length≤i ∧
  z1p (two (z4m fc fe δ)) (xs.drop i)=some rs,
  ⟨xs.length,by simp,bX _,⟨none,none,rfl⟩,z0n hD,[],[],ds,z0m,.nil,rfl,ao _,q1⟩,?_⟩
 rintro i m σ' H' ⟨rfl,hi',⟨w,w',rfl⟩,sm,ys,dn,rs,hys,rys,hds,hln,hrs⟩
 have kp:Keep X.K (fun a=>B a∨a=Da) H1 H':=.same sm
 by_cases hlt:i<xs.length
 ·refine .inr ⟨it.go i H' kp hlt,fun σ'' H''=>(i+1≤xs.length∧(∃w w',σ''=σ++[w,w'])∧Same H1 H''∧∃ys dn rs,H'' Da=some (.lst ys)∧Reps X.K H'' (fun a=>B a∨a=Da) dn ys∧ds=dn++rs∧dn.length≤i+1 ∧
   z1p (two (z4m fc fe δ)) (xs.drop (i+1))=some rs),fun σ'' H'' h=>⟨xs.length - (i+1),by omega,rfl,h⟩,fun xv H2 hy=>?_⟩
  obtain⟨s2,d,hd,rd⟩:=it.yld i H' xv H2 kp hy
  have hdi:=hd hlt
  have hx:xs.drop i=d::xs.drop (i+1):=by
   obtain⟨hl,e⟩:=aX.mp hdi
   rw [bx hl,e]
  rw [hx]at hrs
  obtain⟨o,rs',e2,e3,e4⟩:=z5L hrs
  obtain⟨da,db,ed,e2b⟩:=x0s e2
  subst ed
  unfold Rep at rd
  obtain⟨p,vs,rfl,hsq,rvs⟩:=rd
  unfold Reps at rvs
  obtain⟨va,r1,rfl,ra,rvs⟩:=rvs
  unfold Reps at rvs
  obtain⟨vb,r2,rfl,rb,rvs⟩:=rvs
  unfold Reps at rvs
  subst rvs
  refine⟨p,[va,vb],rfl,hsq,rfl,va,[vb],rfl,vb,[],rfl,rfl,?_⟩
  rw [←hσ,y1E]
  have hB1:InB (fun a=>B a∨a=Da) H2:=fun a ha=>ha.elim (fun z=>(((hB.mono s1).mono sm).mono s2) a z) fun z=>⟨_,s2 _ _ (z ▸ hys)⟩
  have S2:RepS X.K H2 (fun a=>B a∨a=Da) (σ++[some va,some vb]) (δ++[some da,some db]):=((Sw.mono sm).mono s2).snoc2 ra rb
  have hl2:ys.length<sizeLine:=by
   have:=rys.length
   omega
  unfold z4m at e2b
  cases ec:fc (δ++[some da,some db])with
  |none=>rw [ec]at e2b;cases e2b
  |some kk=>
   rw [ec]at e2b
   have e2':(if kk=true then(fe (δ++[some da,some db])).map some else some none)=some o:=e2b
   refine⟨_,δ++[some da,some db],kk,hB1,S2,ec,fun H3 s3=>?_⟩
   cases kk with
   |false=>
    rw [if_neg ar]at e2'
    rw [if_neg ar]
    cases e2'
    exact⟨hlt,⟨_,_,rfl⟩,(sm.trans s2).trans s3,ys,dn,rs',s3 _ _ (s2 _ _ hys),(rys.mono s2).mono s3,by rw [hds,e4];rfl,dU hln,e3⟩
   |true=>
    rw [if_pos rfl]at e2'
    rw [if_pos rfl]
    cases ey:fe (δ++[some da,some db])with
    |none=>rw [ey]at e2';cases e2'
    |some y=>
     rw [ey]at e2'
     cases e2'
     refine⟨_,δ++[some da,some db],y,hB1.mono s3,S2.mono s3,ey,fun yv H5 s5 r5=>⟨ys,s5 _ _ (s3 _ _ (s2 _ _ hys)),hl2,?_⟩⟩
     have hu:H5 Da=some (.lst ys):=s5 _ _ (s3 _ _ (s2 _ _ hys))
     refine⟨hlt,⟨_,_,rfl⟩,fun b u hb=>?_,ys++[yv],dn++[y],rs',z0m,?_,by rw [hds,e4,aZ];rfl,by rw [aF];simp;omega,e3⟩
     ·rw [z0q (z1e hb hD)]
      exact s5 _ _ (s3 _ _ (s2 _ _ (sm _ _ hb)))
     ·exact Reps.keep (.upd (.inr rfl) (by rw [hu];exact trivial)) _ (((rys.mono s2).mono s3 |>.mono s5).snoc r5)
 ·have e:i=xs.length:=by omega
  subst e
  refine .inl ⟨it.stop _ H' kp (ao _),?_⟩
  rw [ci]at hrs
  cases hrs
  rw [aP]at hds
  subst hds
  exact k Da ys H' (s1.trans sm) hD0 hys (rys.anti fun a z=>.inl z)
theorem y3n(hc:X.calm=true)(S:CompScope X.N X.env.scope.names N' 2 sc)(hn:n=X.N.length)(hi:PID X (.Tuple [.Name x px,.Name y py] x1 tp) iter fi)
  (hg:∀s H fp pins E,PG (z0F X N' sc s H fp pins E) (.Tuple [.Name x px,.Name y py] x1 tp) (gTwo X.K n)) (ht:∀s H fp pins E,y7f (z0F X N' sc s H fp pins E) ifs (tT X.K fc)) (he:∀s H fp pins E,PE (z0F X N' sc s H fp pins E) elt (tD X.K fe))
  (hs:∀x,foldedSetIterable iter X.env x=pure x:=by intro _;rfl):PF X (.ListComp elt [⟨.Tuple [.Name x px,.Name y py] x1 tp,iter,ifs,0⟩] sc pos) (z7A fi fc fe):=by
 intro pins s σ H Q I hq
 exact y2d hc S hi ⟨hg,ht,he⟩ hs pins s σ H Q I (y6C (by rw [hn,I.len]) hq)
theorem x3j{X:Cx}{n:Nat}{x y:Str}{px py tp:Pos}{x1}(hc:X.calm=true)(h1:PG X (.Name x px) (z2r n))(h2:PG X (.Name y py) (z2r (n+1)))
  (hs:(assignEach [.Name x px,.Name y py] X.env).map (·.2)=assign (.Name x px) X.env::(assignEach [.Name y py] X.env).map (·.2):=by rfl) (hs2:(assignEach [.Name y py] X.env).map (·.2)=assign (.Name y py) X.env::(assignEach [] X.env).map (·.2):=by rfl)
  (hn:(assignEach [.Name x px,.Name y py] X.env).length=2:=by rfl) (hst:(assignEach [.Name x px,.Name y py] X.env).findIdx? (·.1)=none:=by rfl):PG X (.Tuple [.Name x px,.Name y py] x1 tp) (gTwo X.K n):=
 x3y hc (z6l h1 (z6l h2 y5X hs2) hs) hn hst
end
end L2
namespace L2
open PySem PySem.Spec PyProof.Rows
def y2D:D->Option Key
 |.int n=>some (.inl n)
 |.str x=>some (.inr x)
 |_=>none
theorem y2M{K:aa}{H:Hp}{B:Addr->Prop}{d:D}{k:Key}{v:V}(e:y2D d=some k)(r:Rep K H B d v):v=kV k:=by
 unfold y2D at e
 split at e
 ·cases e;unfold Rep at r;exact r
 ·cases e;unfold Rep at r;exact r
 ·cases e
def setK(ks:List Key)(ds:List D)(k:Key)(d:D):List D:=match ks,ds with
 |k'::ks,e::ds=>(if k'=k then d else e)::setK ks ds k d
 |_,_=>[]
def y2q(ks:List Key)(k:Key):Bool:=ks.any fun k'=>decide (k'=k)
def y1B(ks:List Key)(k:Key):List Key:=if y2q ks k=true then ks else ks++[k]
def y1D(ks:List Key)(ds:List D)(k:Key)(d:D):List D:=if y2q ks k=true then setK ks ds k d else ds++[d]
theorem y2U{k:Key}{kvs:List (Key×V)}{ks:List Key}(e:kvs.map (·.1)=ks):(kvs.any fun kv=>decide (kv.1=k))=y2q ks k:=by
 subst e
 unfold y2q
 rw [cy]
 rfl
theorem y3O{K:aa}{H:Hp}{k:Key}{d:D}{v:V}(td:Tree K H d v []):∀{kvs:List (Key×V)} {ds:List D},Trees K H ds (kvs.map (·.2)) []->Trees K H (setK (kvs.map (·.1)) ds k d) ((kvs.map fun kv=>if kv.1=k then(kv.1,v)else kv).map (·.2)) []
 |[],ds,t=>by
  cases ds with
  |nil=>exact .nil
  |cons e ds=>unfold Trees at t;obtain⟨_,_,_,_,z,_⟩:=t;cases z
 |p::r,[],t=>by obtain⟨z,_⟩:=t;cases z
 |p::r,e::ds,t=>by
  unfold Trees at t
  obtain⟨x,xs,B,C,e1,t1,t2,e2⟩:=t
  cases e1
  obtain⟨rfl,rfl⟩:=List.append_eq_nil_iff.mp e2.symm
  have ih:=y3O (k:=k) td (kvs:=r) t2
  rw [aG,aG,aG]
  unfold setK Trees
  refine⟨_,_,[],[],rfl,?_,ih,rfl⟩
  by_cases h:p.1=k
  ·rw [if_pos h,if_pos h];exact td
  ·rw [if_neg h,if_neg h];exact t1
theorem x2g{k:Key}{v:V}{kvs:List (Key×V)}:(z8c kvs k v).map (·.1)=y1B (kvs.map (·.1)) k:=by
 unfold z8c y1B
 rw [y2U (k:=k) (kvs:=kvs) rfl]
 by_cases h:y2q (kvs.map (·.1)) k=true
 ·rw [if_pos h,if_pos h,aL]
  apply bB
  intro p _
  show(if p.1=k then(p.1,v)else p).1=p.1
  split <;> rfl
 ·rw [if_neg h,if_neg h,aI]
  rfl
theorem x0n{K:aa}{H:Hp}{k:Key}{d:D}{v:V}{kvs:List (Key×V)}{ds:List D}(td:Tree K H d v [])(t:Trees K H ds (kvs.map (·.2)) []):Trees K H (y1D (kvs.map (·.1)) ds k d) ((z8c kvs k v).map (·.2)) []:=by
 unfold z8c y1D
 rw [y2U (k:=k) (kvs:=kvs) rfl]
 by_cases h:y2q (kvs.map (·.1)) k=true
 ·rw [if_pos h,if_pos h]
  exact y3O td t
 ·rw [if_neg h,if_neg h,aI]
  exact t.snoc td
theorem y3d{k:Key}{kvs:List (Key×V)}:(y3k kvs k).isSome=y2q (kvs.map (·.1)) k:=by rw [←z9c];exact y2U rfl
def inK:D->D->Option Bool:=fun x y=>match y with
 |.dct ks _=>(y2D x).map fun k=>y2q ks k
 |_=>none
def x0w(f g:DE):DS->Option Bool:=fun δ=>(f δ).bind fun x=>(g δ).bind fun y=>inK x y
def x1u(f g:DE):DS->Option Bool:=fun δ=>(x0w f g δ).map (!·)
section
variable{X:Cx}{a b o i value:Expr}{f g:DE}{pos pos':Pos}
theorem y3f{δ:DS}{c:Bool}(h:x0w f g δ=some c):∃x k ks ds,f δ=some x∧y2D x=some k∧g δ=some (.dct ks ds)∧c=y2q ks k:=by
 unfold x0w at h
 cases e1:f δ with
 |none=>rw [e1]at h;cases h
 |some x=>
  rw [e1]at h
  cases e2:g δ with
  |none=>rw [e2]at h;cases h
  |some y=>
   rw [e2]at h
   have h:inK x y=some c:=h
   unfold inK at h
   split at h
   ·cases e3:y2D x with
    |none=>rw [e3]at h;cases h
    |some k=>rw [e3]at h;cases h;exact⟨x,k,_,_,rfl,e3,rfl,rfl⟩
   ·cases h
theorem pt_din(hu:X.A.units+64<cLine)(ha:PD X a f)(hb:PD X b g)(hm:behindInMarks .In b=false:=by rfl):PTD X (.Compare a [.In] [b] pos) (x0w f g):=
 (y8G (pc_din (by omega) ha hb) hm).imp fun σ H Q ⟨B,δ,c,hB,S,q,k⟩=>by
  obtain⟨x,ky,ks,ds,e1,e2,e3,rfl⟩:=y3f q
  refine⟨B,δ,x,hB,S,e1,fun v H1 s1 r1=>⟨B,δ,_,hB.mono s1,S.mono s1,e3,fun w H2 s2 r2=>?_⟩⟩
  unfold Rep at r2
  obtain⟨p,kvs,rfl,n,hp,ek,rs⟩:=r2
  have ev:=y2M e2 r1
  subst ev
  refine⟨p,y3k kvs ky,rfl,DGet.k hp,_,rfl,?_⟩
  rw [y3d,ek]
  exact k H2 (s1.trans s2)
theorem pt_dnin(hu:X.A.units+64<cLine)(ha:PD X a f)(hb:PD X b g)(hm:behindInMarks .NotIn b=false:=by rfl):PTD X (.Compare a [.NotIn] [b] pos) (x1u f g):=
 (y8G (y6p (by omega) ha hb) hm).imp fun σ H Q ⟨B,δ,c,hB,S,q,k⟩=>by
  unfold x1u at q
  cases e0:x0w f g δ with
  |none=>rw [e0]at q;cases q
  |some c0=>
  rw [e0]at q
  cases q
  obtain⟨x,ky,ks,ds,e1,e2,e3,rfl⟩:=y3f e0
  refine⟨B,δ,x,hB,S,e1,fun v H1 s1 r1=>⟨B,δ,_,hB.mono s1,S.mono s1,e3,fun w H2 s2 r2=>?_⟩⟩
  unfold Rep at r2
  obtain⟨p,kvs,rfl,n,hp,ek,rs⟩:=r2
  have ev:=y2M e2 r1
  subst ev
  refine⟨p,y3k kvs ky,rfl,DGet.k hp,_,rfl,?_⟩
  rw [y3d,ek]
  exact k H2 (s1.trans s2)
theorem pn_dnew:PN X (.Dict [] [] pos) (dC (.dct [] [])):=pe_dnewK.imp fun σ H Q ⟨δ,d,S,q,k⟩=>by
 cases q
 intro p hp
 refine k _ _ [p] (z0n hp) ?_ (av.mpr ⟨fun z=>(nomatch z),bi⟩) fun a ha=>?_
 ·unfold Tree
  exact⟨p,[],[],rfl,z0m,rfl,.nil,rfl⟩
 ·rw [ax.mp ha];exact hp
variable{H0:Hp}{B0:Addr->Prop}{fr:Bool}{RX:XR}{x:Str}{px:Pos}{ke e:Expr}
def dput(i:Nat)(fk fv:DE):SS->Option Out:=fun δ=>(fv (z0u δ)).bind fun d=>if d.imm=true then(fk (z0u δ)).bind fun dk=>(match y2D dk,δ[i]? with
 |some k,some (some (.ow (.dct ks ds)))=>if z1P ds=true∧ks.length<sizeLine then some (.nx ((z0z i δ).set i (some (.ow (.dct (y1B ks k) (y1D ks ds k d))))))else none
 |_,_=>none)else none
theorem y7I{K:aa}{H:Hp}{ds:List D}{xs:List V}{A:List Addr}(t:Trees K H ds xs A)(h:z1P ds=true):Trees K H ds xs []:=Reps.immTree (B:=fun _=>False) ds h (t.rep ds fun _ _ z=>z)
theorem x3D{i:Nat}{fk fv:DE}(hu:X.A.units+64<cLine)(hx:PE X (.Name x px) (y1u i))(hk:PD X ke fk)(hv:PD X e fv)
  (hs:swapsWith e (some (.Subscript (.Name x px) ke pos')) pos.line X.env=pure false:=by rfl):
  PS X (.Assign [.Subscript (.Name x px) ke pos'] e pos) (tS X.K H0 B0 fr RX (dput i fk fv)):=
 PS.imp (ps_dput (by omega) hx hk hv hs) fun D σ H ⟨δ,R,o,rs,q,kk⟩=>by
  unfold dput at q
  cases e1:fv (z0u δ)with
  |none=>rw [e1]at q;cases q
  |some d=>
  rw [e1,aq]at q
  split at q
  case isFalse=>cases q
  case isTrue hi=>
  cases e2:fk (z0u δ)with
  |none=>rw [e2]at q;cases q
  |some dk=>
  rw [e2,aq]at q
  split at q
  case h_2=>cases q
  case h_1 k ks ds e3 ei=>
  split at q
  case isFalse=>cases q
  case isTrue hc=>
  cases q
  obtain⟨v0,ev,t0,nd⟩:=rs.ow i _ ei
  unfold Tree at t0
  obtain⟨a,kvs,A,rfl,ha,ek,ts,eR⟩:=t0
  have ts:=y7I ts hc.1
  refine⟨noB,z0u δ,d,.no,rs.all,e1,fun v H1 s1 r1=>⟨.ref a,ev,noB,z0u δ,dk,.no,rs.all.mono s1,e2,fun kv H2 s2 r2=>?_⟩⟩
  have ekv:=y2M e3 r2
  subst ekv
  subst ek
  have ha2:H2 a=some (.dK kvs):=s2 _ _ (s1 _ _ ha)
  refine⟨a,_,rfl,DPut.k ha2 (by rw [←am (f:=(·.1))];exact hc.2),?_⟩
  have haR:a∈R i:=by rw [eR];exact ah
  have mu:Mut (H2 a):=by rw [ha2];exact trivial
  have td:Tree X.K H2 d v []:=(r1.immTree d hi).mono s2
  have tp:=x0n (k:=k) td (ts.mono (s1.trans s2))
  have P:=rs.rewrite (d':=.dct (y1B (kvs.map (·.1)) k) (y1D (kvs.map (·.1)) ds k d)) (a:=a) (o:=.dK (z8c kvs k v)) (A':=[a]) (s1.trans s2) ei ev haR (by
   unfold Tree
   exact⟨a,z8c kvs k v,[],rfl,z0m,x2g,Trees.keep (Keep.upd (K:=X.K) (B:=fun x=>x=a) rfl mu).i _ tp fun b hb=>(nomatch hb),rfl⟩) (av.mpr ⟨fun z=>(nomatch z),bi⟩) fun b hb=>by
    rw [ax.mp hb];exact .inl haR
  exact kk σ _ _ P.1 P.2
end
end L2
namespace HT
open PySem PySem.Spec PyProof.Rows
section
variable{prog:Program}{w:World}{A:Around}{E:Value->Shared->Prop}{s:Shared}
end
end HT
namespace L2
open PySem PySem.Spec PyProof.Rows
section
variable{X:Cx}{e st:Expr}{te:TE}{tk:TO}{pos p2:Pos}
variable{f g:DE}
variable{a b:Expr}
def catLs:D->D->Option (List D)
 |.lst ds,.lst es=>if ds.length+es.length≤sizeLine then some (ds++es)else none
 |_,_=>none
def x2v(f g:DE):DS->Option (List D):=fun δ=>(f δ).bind fun x=>(g δ).bind fun y=>catLs x y
theorem y9x(ha:PD X a f)(hb:PD X b g):PF X (.BinOp a .Add b pos) (x2v f g):=(pe_op op_cat ha hb).imp fun σ H Q ⟨B,δ,ds,hB,S,q,k⟩=>by
 unfold x2v at q
 cases e1:f δ with
 |none=>rw [e1]at q;cases q
 |some x=>
 rw [e1,aq]at q
 cases e2:g δ with
 |none=>rw [e2]at q;cases q
 |some y=>
 rw [e2,aq]at q
 unfold catLs at q
 split at q
 case h_2=>cases q
 case h_1 xs ys=>
 split at q
 case isFalse=>cases q
 case isTrue hl=>
 cases q
 refine⟨B,δ,_,hB,S,e1,fun v H1 s1 r1=>⟨B,δ,_,hB.mono s1,S.mono s1,e2,fun v2 H2 s2 r2=>?_⟩⟩
 unfold Rep at r1 r2
 obtain⟨p1,vs,rfl,n1,h1,rs1⟩:=r1
 obtain⟨p2,ws,rfl,n2,h2,rs2⟩:=r2
 refine⟨p1,p2,vs,ws,rfl,rfl,s2 _ _ h1,h2,by rw [←rs1.length,←rs2.length];exact hl,fun p hp=>?_⟩
 exact k p _ _ ((s1.trans s2).trans (z0n hp)) ((s1.trans s2).free hp) z0m (((rs1.mono s2).append rs2).mono (z0n hp))
def maxF:List D->Option D
 |[.int i,.int j]=>some (.int (if j>i then j else i))
 |_=>none
def minF:List D->Option D
 |[.int i,.int j]=>some (.int (if j<i then j else i))
 |_=>none
theorem oa_min{K:aa}:OpA K (fun xs H Q=>∃i j,xs=[.int i,.int j]∧Q (.int (if j<i then j else i)) H) minF:=by
 intro H B ds d vs Q hB hr q k
 unfold minF at q
 split at q
 case h_2=>cases q
 case h_1 i j=>
 cases q
 unfold Reps at hr
 obtain⟨x,r,rfl,hx,hr⟩:=hr
 obtain⟨y,rfl,hy⟩:=z3w hr
 unfold Rep at hx hy
 subst hx hy
 exact⟨i,j,rfl,k _ H (.refl H) (by unfold Rep;rfl)⟩
variable{p:Pos}
theorem y7l(hc:X.calm=true)(hg:Gl X "min")(hm:X.mg "min" = none)(ha:PD X a f)(hb:PD X b g)(he:starEach [a,b] X.env=(false,eval a X.env)::starEach [b] X.env:=by rfl)(he2:starEach [b] X.env=[(false,eval b X.env)]:=by rfl)(hpl:(backTo pos (starEach [b] X.env)).any (·.1)=false:=by rfl):PD X (.Call (.Name "min" p) [a,b] [] pos) (z0i minF [f,g]):=
 z2s (y9o hc) oa_min hg hm PyProof.Rows.Boot.«min» (z0a ha (z0a hb z0c he2) he) (by decide) (by decide) he hpl
end
end L2
namespace L2
open PySem PySem.Spec PyProof.Rows
section
variable{X:Cx}{o e:Expr}{apos cpos:Pos}
end
end L2
namespace L2
open PySem PySem.Spec PyProof.Rows
section
variable{X:Cx}{H0:Hp}{B0:Addr->Prop}{fr:Bool}{RX:XR}{e:Expr}{pos:Pos}{f:DE}
end
end L2
namespace L2
open PySem PySem.Spec PyProof.Rows
def cntR(lo hi c:Int):Nat:=if lo<hi then((hi - lo - 1) / c+1).toNat else 0
def Itr3(lo c:Int)(n:Nat):It:=⟨fun i _=>i<n,fun i H x H'=>H'=H∧x = .int (lo+(i:Nat)*c),fun i _=>n≤i⟩
theorem y1T{P:Program}{w:World}{K:aa}{tg:Expr}(it:Addr)(lo c:Int)(n:Nat):Turn P w K tg (Itr3 lo c n) [it] it (fun i h=>IsRangeIter h it (lo+(i:Nat)*c) ((n:Int) - (i:Nat)) c) where
 mem:=by simp
 obj:=fun i h st b hb=>by
  have e:b=it:=by simpa using hb
  subst e
  exact⟨_,st,fun v z=>by
   have z':Data.fields _=Data.cell v:=z
   cases z'⟩
 keep:=fun i h h' st k=>k it (by simp) _ st
 item:=by
  intro X hP hw hK hc i pins s σ H E I hf st hg
  subst hP hw hK
  obtain⟨f0,f1,f2,f3,f4,f5⟩:=hf it (by simp)
  have W:=Walks.range (prog:=X.prog) (w:=X.w) (I.ok.hd hc) it lo c n
  refine W.item i s _ _ hg st fun v h' tk hv st' kk=>?_
  obtain⟨t,rfl⟩:=hv
  have I1:Inv X pins σ H { s with heap:=h',toks:=tk }:=I.turned (fun b o hb e=>kk b o (by simpa using hb) e) f0 f1 f3 f4 f5
  exact⟨_,rfl,x1p (s:={ s with heap:=h',toks:=tk }) (n := "range_iterator") st' rfl rfl (by decide) ⟨.int (lo+(i:Nat)*c),H,I1,⟨t,rfl⟩,⟨rfl,rfl⟩,st',fun b hb=>(hf b hb).1⟩⟩
 done:=by
  intro X hP hw hK hc i pins s σ H E I hf st hg
  subst hP hw hK
  obtain⟨f0,f1,f2,f3,f4,f5⟩:=hf it (by simp)
  exact wpAny_pyNext_range_end (I.ok.hd hc) st (by have:n≤i:=hg;omega) fun h' eb=>⟨rfl,I.turned (t':=s.toks) (fun b o hb e=>eb b o hb e) f0 f1 f3 f4 f5⟩
 self:=fun _ _ _ _ _ st h=>wpAny_pyIter_rangeiter st h
section
variable{X:Cx}{tg:Expr}
theorem Vals.three:∀{x y z:V} {us:List Value},Vals [x,y,z] us->∃u v w,us=[u,v,w]∧RelV x u∧RelV y v∧RelV z w
 |_,_,_,_,.cons r (.cons q (.cons p .nil))=>⟨_,_,_,rfl,r,q,p⟩
def y6B(lo c:Int)(n:Nat):List D:=(ad n).map fun i=>.int (lo+(i:Nat)*c)
theorem x1K{lo c:Int}{n i:Nat}(h:i<n):(y6B lo c n)[i]? = some (.int (lo+(i:Nat)*c)):=by
 unfold y6B
 rw [aN,dA h]
 rfl
theorem z9M{lo c:Int}{n:Nat}:(y6B lo c n).length=n:=by simp [y6B]
theorem x0W{K:aa}{H:Hp}{B:Addr->Prop}{lo c:Int}{n:Nat}:ItD K (Itr3 lo c n) H B (y6B lo c n):=by
 refine⟨fun i H' _ hi=>?_,fun i H' _ hi=>?_,fun i H' x H2 _ y=>?_⟩
 ·rw [z9M]at hi;exact hi
 ·rw [z9M]at hi;exact hi
 ·obtain⟨e,y⟩:=y
  subst e y
  exact⟨.refl _,.int (lo+(i:Nat)*c),fun h=>x1K (by rwa [z9M]at h),rfl⟩
def rng3:Option D->Option D->Option D->Option (List D)
 |some (.int i),some (.int j),some (.int c)=>if -(2 ^ 61)≤i∧i<2 ^ 61∧-(2 ^ 61)≤j∧j<2 ^ 61∧0<c∧c<2 ^ 30 then some (y6B i c (cntR i j c))else none
 |_,_,_=>none
end
def z3L(c:DS->Option Bool)(b:SS->Option Out):Nat->SS->Option Out
 |0,_=>none
 |n+1,δ=>(c (z0u δ)).bind fun k=>if k=true then(b δ).bind fun o=>(match o with
  |.nx δ'=>z3L c b n δ'
  |.ct δ'=>z3L c b n δ'
  |.bk δ'=>some (.nx δ')
  |.rt d=>some (.rt d)
  |.rb d δ'=>some (.rb d δ')
  |.ex c δ'=>some (.ex c δ'))else some (.nx δ)
section
variable{X:Cx}{H0:Hp}{B0:Addr->Prop}{fr:Bool}{RX:XR}{pos:Pos}
theorem y2o{c:Expr}{body:List Stmt}{fc:DS->Option Bool}{g:SS->Option Out}(n:Nat)(hp:PassesOwn (model X.prog X.w) X.A X.env X.xe)(hc:PTD X c fc)(hb:PSs X body (tS X.K H0 B0 fr RX g)):PS X (.While c body [] pos) (tS X.K H0 B0 fr RX (z3L fc g n)):=
 PS.imp (x0J hp hc hb) fun D σ H ⟨δ,R,o,rs,q,k⟩=>by
  refine⟨fun m σ' H'=>∃δ' R',RS X.K H0 B0 H' σ' δ' R'∧Stp R H R' H'∧z3L fc g m δ'=some o,⟨n,δ,R,rs,.refl R H,q⟩,?_⟩
  rintro m σ' H' ⟨δ',R',rs',s',q'⟩
  cases m with
  |zero=>cases q'
  |succ m=>
   unfold z3L at q'
   cases ec:fc (z0u δ')with
   |none=>rw [ec]at q';cases q'
   |some kk=>
    rw [ec,aq]at q'
    refine⟨noB,z0u δ',kk,.no,rs'.all,ec,fun H1 s1=>?_⟩
    have rs1:=rs'.mono s1
    have st1:Stp R H R' H1:=s'.trans (.same s1)
    cases kk with
    |false=>
     rw [if_neg ar]at q'
     cases q'
     exact k σ' H1 R' rs1 st1
    |true=>
     rw [if_pos rfl]at q'
     cases eb:g δ' with
     |none=>rw [eb]at q';cases q'
     |some ob=>
      rw [eb,aq]at q'
      refine⟨fun σ2 H2=>∃δ2 R2,RS X.K H0 B0 H2 σ2 δ2 R2∧Stp R H R2 H2∧z3L fc g m δ2=some o,fun σ2 H2 z=>⟨m,c7 m,z⟩,δ',R',ob,rs1,eb,?_⟩
      cases ob with
      |nx δ2=>exact fun σ3 H3 R3 rs3 s3=>⟨δ2,R3,rs3,st1.trans s3,q'⟩
      |ct δ2=>exact fun σ3 H3 R3 rs3 s3=>⟨δ2,R3,rs3,st1.trans s3,q'⟩
      |bk δ2=>
       cases q'
       exact fun σ3 H3 R3 rs3 s3=>k σ3 H3 R3 rs3 (st1.trans s3)
      |rt d=>
       cases q'
       exact k.back st1
      |rb d δ2=>
       cases q'
       exact k.back st1
      |ex c δ2=>
       cases q'
       exact k.back st1
def isN:D->Bool
 |.non=>true
 |_=>false
theorem rep_isN{K:aa}{H:Hp}{B:Addr->Prop}{d:D}{v:V}(r:Rep K H B d v):decide (v=V.non)=isN d:=by
 cases d with
 |non=>unfold Rep at r;subst r;rfl
 |bl b=>unfold Rep at r;subst r;rfl
 |int i=>unfold Rep at r;subst r;rfl
 |str x=>unfold Rep at r;subst r;rfl
 |lst ds=>unfold Rep at r;obtain⟨a,xs,rfl,_⟩:=r;rfl
 |tup ds=>unfold Rep at r;obtain⟨a,xs,rfl,_⟩:=r;rfl
 |scr ns=>unfold Rep at r;obtain⟨a,rfl,_⟩:=r;rfl
 |dct ks ds=>unfold Rep at r;obtain⟨a,kvs,rfl,_⟩:=r;rfl
 |exc x=>unfold Rep at r;obtain⟨a,C,rfl,_⟩:=r;rfl
 |obj x a ks ds=>unfold Rep at r;obtain⟨C,dx,fs,_,_,⟨rfl,_⟩,_⟩:=r;rfl
 |cel a ds=>unfold Rep at r;obtain⟨xs,_,_,rfl,_⟩:=r;rfl
def dIsN(f:DE):DS->Option Bool:=fun δ=>(f δ).map isN
variable{a:Expr}{f:DE}
theorem z6G{j pos'}(ha:PD X a f)(hm:behindInMarks .Is (.Constant .none j pos')=false:=by rfl):PTD X (.Compare a [.Is] [.Constant .none j pos'] pos) (dIsN f):=(y8G (pc_isN ha) hm).imp fun σ H Q ⟨B,δ,c,hB,S,q,k⟩=>by
 unfold dIsN at q
 cases e:f δ with
 |none=>rw [e]at q;cases q
 |some d=>
  rw [e]at q
  cases q
  refine⟨B,δ,d,hB,S,e,fun v H1 s1 r1=>⟨_,rfl,?_⟩⟩
  rw [rep_isN r1]
  exact k H1 s1
end
end L2
namespace L2
open PySem PySem.Spec PyProof.Rows
section
variable{X:Cx}{a b:Expr}{f g:DE}{pos:Pos}
variable{H0:Hp}{B0:Addr->Prop}{fr:Bool}{RX:XR}{x:Str}{px ap cp:Pos}{e:Expr}
def ext0N(i:Nat)(f:DE):SS->Option Out:=fun δ=>(f (z0u δ)).bind fun d=>(match d,δ[i]? with
 |.lst es,some (some (.ow (.lst ds)))=>if ds.length+es.length≤sizeLine then some (.nx ((z0z i δ).set i (some (.ow (.lst (ds++es))))))else none
 |_,_=>none)
end
end L2
namespace L2
open PySem PySem.Spec PyProof.Rows
def insS(x:Int):List Int->List Int
 |[]=>[x]
 |y::r=>if x≤y then x::y::r else y::insS x r
def z6m:List Int->List Int
 |[]=>[]
 |x::r=>insS x (z6m r)
theorem z7l(x:Int):∀l:List Int,(insS x l).Perm (x::l)
 |[]=>.refl _
 |y::r=>by
  unfold insS
  split
  ·exact .refl _
  ·exact((z7l x r).cons y).trans (.swap x y r)
theorem z6H:∀l:List Int,(z6m l).Perm l
 |[]=>.refl _
 |x::r=>(z7l x _).trans ((z6H r).cons x)
theorem z6Y{x:Int}:∀{l:List Int},l.Pairwise (· ≤ ·)->(insS x l).Pairwise (· ≤ ·)
 |[],_=>by unfold insS;simp
 |y::r,h=>by
  unfold insS
  split
  ·rename_i hxy
   refine bh.mpr ⟨fun z hz=>?_,h⟩
   rcases ai.mp hz with e | e
   ·omega
   ·have:=(bh.mp h).1 z e
    omega
  ·rename_i hxy
   refine bh.mpr ⟨fun z hz=>?_,z6Y (bh.mp h).2⟩
   rcases ai.mp ((z7l x r).mem_iff.mp hz)with e | e
   ·omega
   ·exact(bh.mp h).1 z e
theorem z6F:∀l:List Int,(z6m l).Pairwise (· ≤ ·)
 |[]=>.nil
 |_::r=>z6Y (z6F r)
theorem z8l:∀{a b:List Int},a.Perm b->a.Pairwise (· ≤ ·)->b.Pairwise (· ≤ ·)->a=b
 |[],b,p,_,_=>(List.nil_perm.mp p).symm
 |x::a,[],p,_,_=>by have:=p.length_eq;simp at this
 |x::a,y::b,p,ha,hb=>by
  obtain⟨ha1,ha2⟩:=bh.mp ha
  obtain⟨hb1,hb2⟩:=bh.mp hb
  have hxy:x=y:=by
   have h1:x∈y::b:=p.mem_iff.mp ah
   have h2:y∈x::a:=p.mem_iff.mpr ah
   rcases ai.mp h1 with e | e
   ·exact e
   ·rcases ai.mp h2 with e' | e'
    ·exact e'.symm
    ·have:=ha1 y e'
     have:=hb1 x e
     omega
  subst hxy
  rw [z8l (List.perm_cons x |>.mp p) ha2 hb2]
theorem z5C{a l:List Int}(p:a.Perm l)(h:a.Pairwise (· ≤ ·)):a=z6m l:=z8l (p.trans (z6H l).symm) h (z6F l)
section
variable{prog:Program}{w:World}{A:Around}{E:Value->Shared->Prop}{s:Shared}
theorem z8j{l:Addr}{T:String}{o:Obj}{vs:List Value}{n:Nat}{ns:List Int}{Q:Value->Shared->Prop}(hT:T = "list" ∨ T = "tuple")(ho:s.heap.get? l=some o)(hc:o.cls = .type T)(hd:o.data = .seq vs.toArray n)(hI:IntsAre vs ns)(h64:vs.length<64)
  (h:∀(h1 h':Heap) (out:List Value) (e:Nat) (ns':List Int),(∀b o',s.heap.get? b=some o'->h1.get? b=some o')->(∀b o',h1.get? b=some o'->h'.get? b=some o')->h'.get? h1.objs.size=some { cls:=.type "list",data:=.seq out.toArray e }->IntsAre out ns'->ns'.Perm ns->ns'.Pairwise (· ≤ ·)->Q (.ref h1.objs.size) { s with heap:=h' }):
  wpAny (model prog w) A (call (.builtin "sorted") [.ref l]) Q E s:=by
 refine Calls.call_function_entry kind_sorted plain_sorted entry_sorted (args_sorted1 _) ?_
 unfold Builtin.«sorted»
 refine wpAny_bind (m:=checkCount "sorted" 1 1 _) (wpAny_pure ?_)
 refine wpAny_bind (wpAny_collect_seq l hT ho hc hd (fun h1 k1=>?_) (by rw [aD,sizeLine_eq];omega))
 rw [List.toList_toArray]
 refine wpAny_bind (wpAny_newList ?_)
 have hoL:(h1.push (seqObj "list" vs.toArray 0)).get? h1.objs.size=some (seqObj "list" vs.toArray 0):=Heap.get?_push_size _ rfl
 show wpAny _ _ _ _ _ { s with heap:=h1.push (seqObj "list" vs.toArray 0) }
 refine wpAny_bind (wpAny_holding (wpAny_call_entry slot_list_sort ⟨_,hoL,rfl⟩ entry_list_sort (list_sort_tree hoL hI h64 fun out ns' a1 a2 a3=>⟨_,rfl,?_⟩) (args_list_sort _)))
 obtain⟨e,he⟩:=sortedHeap_at (out:=out) hoL
 refine wpAny_pure ⟨_,rfl,h h1 _ out.toList e ns' k1 (fun b o' hb=>?_) (by simpa [seqObj] using he) a1 a2 a3⟩
 have hlt:b<h1.objs.size:=Heap.lt_size hb
 rw [sortedHeap_old (aC hlt) (by rw [size_push'];exact bI hlt)]
 exact Heap.get?_push_of_some _ hb
end
section
variable{X:Cx}
theorem x1b:∀{ns:List Int} {vs:List Value},IntsAre vs ns->Vals (ns.map V.int) vs
 |_,_,.nil=>.nil
 |_,_,.cons n t r=>.cons ⟨t,rfl⟩ (x1b r)
theorem z9Q:∀{ns:List Int} {vs:List Value},Vals (ns.map V.int) vs->IntsAre vs ns
 |[],_,.nil=>.nil
 |n::ns,_,.cons ⟨t,e⟩ r=>by subst e;exact .cons n t (z9Q r)
theorem y0Y:z4n X (.builtin "sorted") (fun xs H Q=>∃(p:Addr) (ns:List Int),xs=[.ref p]∧(SqL X.K H p (ns.map V.int)∨SqT X.K H p (ns.map V.int))∧ns.length<64∧∀l,H l=none->Q (.ref l) (upd H l (.lst ((z6m ns).map V.int)))):=by
 intro pins s σ H xs us Q I r h
 obtain⟨p,ns,rfl,hq,h64,q⟩:=h
 obtain⟨u,rfl,rx⟩:=z7T r
 cases rx
 have fin:∀(its:List Value),Vals (ns.map V.int) its->∀(h1 h':Heap) (out:List Value) (e:Nat) (ns':List Int),(∀b o',s.heap.get? b=some o'->h1.get? b=some o')->(∀b o',h1.get? b=some o'->h'.get? b=some o')->h'.get? h1.objs.size=some { cls:=.type "list",data:=.seq out.toArray e }->IntsAre out ns'->ns'.Perm ns->ns'.Pairwise (· ≤ ·)->EP X pins σ Q (.ref h1.objs.size) { s with heap:=h' }:=by
  intro its rv h1 h' out e ns' k1 k2 ho hi hp hs
  have es:=z5C hp hs
  subst es
  have I1:Inv X pins σ H { s with heap:=h1 }:=I.kept (t':=s.toks) k1
  refine⟨.ref h1.objs.size,_,Inv.laid (s:={ s with heap:=h1 }) (t':=s.toks) I1 k2 (ao _) (show ObjOk X.prog X.w _ h' _ (.lst ((z6m ns).map V.int)) from⟨?_,out,e,x1b hi,ho⟩),rfl,q _ (I1.hok.fresh (ao _))⟩
  rw [am,hp.length_eq,sizeLine_eq]
  omega
 rcases hq with hq | hq
 ·obtain⟨its,rv,⟨o,n,e,c,_,d⟩,hz⟩:=I.list hq
  have hlen:its.length=ns.length:=by have:=rv.length;simpa using this.symm
  exact z8j (.inl rfl) e c d (z9Q rv) (by omega) (fin its rv)
 ·obtain⟨its,o,n,rv,e,c,_,d,hz⟩:=I.tupleO hq
  have hlen:its.length=ns.length:=by have:=rv.length;simpa using this.symm
  exact z8j (.inr rfl) e c d (z9Q rv) (by omega) (fin its rv)
def y5p:List D->Option (List D)
 |[.lst ds]=>(z1A ds).bind fun ns=>if ns.length<64 then some ((z6m ns).map .int)else none
 |[.tup ds]=>(z1A ds).bind fun ns=>if ns.length<64 then some ((z6m ns).map .int)else none
 |_=>none
theorem y0N{ds es:List D}(h:((z1A ds).bind fun ns=>if ns.length<64 then some ((z6m ns).map D.int)else none)=some es):∃ns:List Int,ds=ns.map D.int∧ns.length<64∧es=(z6m ns).map D.int:=by
 cases e:z1A ds with
 |none=>rw [e]at h;cases h
 |some ns=>
  rw [e,aq]at h
  split at h
  ·cases h
   exact⟨ns,y1w e,by assumption,rfl⟩
  ·cases h
theorem ol_sort{K:aa}:OpL K (fun xs H Q=>∃(p:Addr) (ns:List Int),xs=[.ref p]∧(SqL K H p (ns.map V.int)∨SqT K H p (ns.map V.int))∧ns.length<64∧∀l,H l=none->Q (.ref l) (upd H l (.lst ((z6m ns).map V.int)))) y5p:=by
 intro H B ds es vs Q hB hr q k
 unfold y5p at q
 split at q
 ·obtain⟨ns,rfl,h64,rfl⟩:=y0N q
  obtain⟨v,rfl,r⟩:=z3w hr
  unfold Rep at r
  obtain⟨a,xs,rfl,_,h,rs⟩:=r
  have ex:=z9K rs
  subst ex
  exact⟨a,ns,rfl,.inl (SqL.of h),h64,fun l hl=>k l _ _ (z0n hl) hl z0m (z1K _)⟩
 ·obtain⟨ns,rfl,h64,rfl⟩:=y0N q
  obtain⟨v,rfl,r⟩:=z3w hr
  unfold Rep at r
  obtain⟨a,xs,rfl,h,rs⟩:=r
  have ex:=z9K rs
  subst ex
  exact⟨a,ns,rfl,.inr h,h64,fun l hl=>k l _ _ (z0n hl) hl z0m (z1K _)⟩
 ·cases q
variable{e:Expr}{f:DE}{p pos:Pos}
theorem y6c(hg:Gl X "sorted")(hm:X.mg "sorted" = none)(h:PD X e f)(he:starEach [e] X.env=[(false,eval e X.env)]:=by rfl):PF X (.Call (.Name "sorted" p) [e] [] pos) (z2S y5p [f]):=
 (z6z y0Y hg hm boot_sorted (z0a h z0c he) (by decide) (by decide) he rfl).imp (callL ol_sort)
end
end L2
namespace L2
open PySem PySem.Spec PyProof.Rows
section
variable{prog:Program}{w:World}{A:Around}{s:Shared}{R:Result->Shared->Prop}
variable{I:Addr}{fp wr:List Addr}{G:Array GenState->Array GenState->Prop}{n:Nat}{P:Nat->Value->Prop}{St:Nat->Shared->Prop}
end
section
variable{prog:Program}{w:World}{A:Around}{E:Value->Shared->Prop}{s:Shared}
end
section
variable{X:Cx}
end
end L2
namespace L2
open PySem PySem.Spec PyProof.Rows
def Thr(h:Heap)(e T:Addr)(cls:Value):Prop:=∃oe vs oT ts,h.get? e=some oe∧oe.cls=cls∧oe.data = .fields vs∧vs[1]? = some (.ref T)∧T≠e∧h.get? T=some oT∧oT.data = .fields ts∧ts[3]? = some .none∧oe.dict=none
def Thr0(h:Heap)(e:Addr)(cls:Value):Prop:=∃oe vs,h.get? e=some oe∧oe.cls=cls∧oe.data = .fields vs∧vs[1]? = some .none∧oe.dict=none
structure Gone(S ch:List Addr)(e:Addr)(cls:Value)(h h':Heap):Prop where
 keep:∀b o,b∉S->b∉ch->h.get? b=some o->h'.get? b=some o
 slot:∀b o,b∈S->b∉ch->h.get? b=some o->∃sl,h'.get? b=some { o with slots:=sl }
 there:∀b o,h.get? b=some o->∃o',h'.get? b=some o'
 thr:∃T,h.objs.size≤T∧Thr h' e T cls
section
variable{M:Model}{A:Around}{E:Value->Shared->Prop}{s:Shared}
theorem x0S{o:Obj}{f:Array Value->Array Value}(h:o.dict=none):(Obj.mapFields f o).dict=none:=by
 unfold Obj.mapFields
 split <;> exact h
theorem y3t{base:Heap}{env:Env}{outer:List Env}{L e:Addr}{oe:Obj}{vs:Array Value}{head:Value}{hadNext:Bool}{Q:Unit->Shared->Prop}
  (hfr:A.frames=some (env::outer)) (hl:s.heap.FunFrames base (env::outer)) (hf:env.frame=some L)
  (he:s.heap.get? e=some oe) (hd:oe.data = .fields vs) (hsz:1<vs.size) (hdn:oe.dict=none)
  (h:∀h',Gone (frs (env::outer)) [e] e oe.cls s.heap h'->Q () { s with heap:=h' }):
  wpAny M A (do let a ←frameOf env;let pl ←entryPlaceOf L hadNext;let b ←EntryCells.newEntry head a .none (rawInt L) .none pl;setField (.ref e) 1 b) (fun _ s'=>wpAny M A (setFlight (.ref e) none) Q E s') E s:=by
 have hene:e∉frs (env::outer):=fun hm=>by
  obtain⟨_,o,ho,hnf⟩:=hl.mem hm
  rw [he]at ho;injection ho with ho;subst ho;exact hnf vs hd
 refine wpAny_bind (wpAny_frameOf_fun hfr hl hf fun h₁ hs₁=>?_)
 refine wpAny_bind (wpAny_entryPlaceOf fun pl hpl=>?_)
 unfold EntryCells.newEntry newFields
 refine wpAny_bind (wpAny_newObj_type ?_ (hpl.sizeOk5 _ _ _ _ _))
 have he₁:h₁.get? e=some oe:=(hs₁.2.1 e hene).trans he
 generalize hob:({ cls:=.type "traceback",dict:=none,data:=.fields ([head,.ref L,.none,rawInt L,.none]++(if pl.isEmpty then ak 6 Value.none else pl)).toArray }:Obj)=ob
 have hobd:ob.data = .fields ([head,.ref L,.none,rawInt L,.none]++(if pl.isEmpty then ak 6 Value.none else pl)).toArray:=by rw [←hob]
 have hobf:ob.isFreed=false:=by rw [←hob];rfl
 have he₂:=Heap.get?_push_of_some (h:=h₁) ob he₁
 refine wpAny_setField he₂ hd hsz ?_
 have hTe:h₁.objs.size≠e:=cA (Heap.lt_size he₁)
 have hd₃:=Obj.data_mapFields hd (·.setIfInBounds 1 (Value.ref h₁.objs.size))
 have he₃:=Heap.get?_update_self (Obj.mapFields (·.setIfInBounds 1 (Value.ref h₁.objs.size))) he₂ (Obj.isFreed_of_fields hd₃)
 have hT₃:=(Heap.get?_update_other (h₁.push ob) (Obj.mapFields (·.setIfInBounds 1 (Value.ref h₁.objs.size))) (Ne.symm hTe)).trans (Heap.get?_push_size h₁ hobf)
 unfold setFlight
 refine wpAny_bind (wpAny_field he₃ hd₃ (x:=.ref h₁.objs.size) (by simp [hsz]) ?_)
 rw [if_pos (show(Value.ref h₁.objs.size != Value.none)=true from by simp)]
 refine wpAny_setField hT₃ hobd (by simp only [aD,aF,aY,d5] <;> omega) (h _ ?_)
 have keep:∀b o,b≠e->h₁.get? b=some o →
   (((h₁.push ob).update e (Obj.mapFields (·.setIfInBounds 1 (Value.ref h₁.objs.size)))).update h₁.objs.size (Obj.mapFields (·.setIfInBounds 3 ((none:Option Addr).elim Value.none fun f=>rawInt f)))).get? b=some o:=fun b o hbe hb=>by
  have hbT:h₁.objs.size≠b:=cA (Heap.lt_size hb)
  rw [Heap.get?_update_other _ _ hbT,Heap.get?_update_other _ _ (Ne.symm hbe)]
  exact Heap.get?_push_of_some _ hb
 have heF:(((h₁.push ob).update e (Obj.mapFields (·.setIfInBounds 1 (Value.ref h₁.objs.size)))).update h₁.objs.size (Obj.mapFields (·.setIfInBounds 3 ((none:Option Addr).elim Value.none fun f=>rawInt f)))).get? e=some (Obj.mapFields (·.setIfInBounds 1 (Value.ref h₁.objs.size)) oe):=by
  rw [Heap.get?_update_other _ _ hTe];exact he₃
 refine⟨fun b o hb hc e1=>?_,fun b o hb hc e1=>?_,fun b o e1=>?_,h₁.objs.size,?_,?_⟩
 ·exact keep b o (fun z=>hc (by simp [z])) ((hs₁.2.1 b hb).trans e1)
 ·obtain⟨sl,e2⟩:=hs₁.2.2 b o e1
  exact⟨sl,keep b _ (fun z=>hc (by simp [z])) e2⟩
 ·by_cases hb:b=e
  ·exact⟨Obj.mapFields (·.setIfInBounds 1 (Value.ref h₁.objs.size)) oe,by rw [hb];exact heF⟩
  ·obtain⟨sl,e2⟩:=hs₁.2.2 b o e1
   exact⟨_,keep b _ hb e2⟩
 ·rw [hs₁.1]
  exact ao _
 ·exact⟨_,_,_,_,heF,Obj.cls_mapFields _ _,hd₃,by simp [hsz],hTe,Heap.get?_update_self _ hT₃ (Obj.isFreed_of_fields (Obj.data_mapFields hobd _)),Obj.data_mapFields hobd _,by first | (simp;done) | (rcases hpl with rfl | ⟨_,_,_,_,_,_,_,rfl⟩ <;> simp),x0S hdn⟩
theorem y4V{base:Heap}{env:Env}{outer:List Env}{L e:Addr}{cls:Value}{Q:Unit->Shared->Prop}
  (hfr:A.frames=some (env::outer)) (hl:s.heap.FunFrames base (env::outer)) (hf:env.frame=some L) (ht:Thr0 s.heap e cls)
  (h:∀h',Gone (frs (env::outer)) [e] e cls s.heap h'->Q () { s with heap:=h' }):wpAny M A (noteFrame (.ref e) env) (fun _ s'=>wpAny M A (setFlight (.ref e) none) Q E s') E s:=by
 obtain⟨oe,vs,he,rfl,hd,h1,hdn⟩:=ht
 unfold noteFrame
 simp only [hf]
 refine wpAny_bind (wpAny_field he hd h1 ?_)
 rw [if_neg (by decide)]
 exact y3t hfr hl hf he hd (cU.mp h1).1 hdn h
theorem y6V{base:Heap}{env:Env}{outer:List Env}{L e T:Addr}{cls:Value}{Q:Unit->Shared->Prop}
  (hfr:A.frames=some (env::outer)) (hl:s.heap.FunFrames base (env::outer)) (hf:env.frame=some L) (ht:Thr s.heap e T cls)
  (h:∀h',Gone (frs (env::outer)) [e,T] e cls s.heap h'->Q () { s with heap:=h' }):wpAny M A (noteFrame (.ref e) env) (fun _ s'=>wpAny M A (setFlight (.ref e) none) Q E s') E s:=by
 obtain⟨oe,vs,oT,ts,he,rfl,hd,h1,hTe,hT,hdT,h3,hdn⟩:=ht
 unfold noteFrame
 simp only [hf]
 refine wpAny_bind (wpAny_field he hd h1 ?_)
 rw [if_pos (show(Value.ref T != Value.none)=true from by simp)]
 refine wpAny_bind (wpAny_field hT hdT h3 ?_)
 rw [if_neg (show ¬ ((Value.none==rawInt L)=true) from by simp [rawInt])]
 refine wpAny_bind (wpAny_setField hT hdT (cU.mp h3).1 ?_)
 have other:∀b,b≠T->(s.heap.update T (Obj.mapFields (·.setIfInBounds 3 Value.none))).get? b=s.heap.get? b:=fun b hb=>Heap.get?_update_other _ _ (Ne.symm hb)
 have noRecord:∀b o,s.heap.get? b=some o->(∀vs,o.data≠.fields vs)->b≠T:=fun b o hb hnf q=>by
  rw [q,hT]at hb;injection hb with hb;subst hb;exact hnf ts hdT
 refine y3t hfr (hl.of_keeps fun b o hb hnf=>⟨o,(other b (noRecord b o hb hnf)).trans hb,rfl⟩) hf ((other e (Ne.symm hTe)).trans he) hd (cU.mp h1).1 hdn fun h' G=>h h' ?_
 refine⟨fun b o hb hc e1=>G.keep b o hb (fun z=>hc (ai.mpr (.inl (ax.mp z)))) ((other b fun z=>hc (by simp [z])).trans e1),fun b o hb hc e1=>G.slot b o hb (fun z=>hc (ai.mpr (.inl (ax.mp z)))) ((other b fun z=>hc (by simp [z])).trans e1),fun b o e1=>?_,?_⟩
 ·by_cases hb:b=T
  ·have e2:(s.heap.update T (Obj.mapFields (·.setIfInBounds 3 Value.none))).get? b=some (Obj.mapFields (·.setIfInBounds 3 Value.none) oT):=by
    rw [hb]
    exact Heap.get?_update_self _ hT (Obj.isFreed_of_fields (Obj.data_mapFields hdT _))
   exact G.there b _ e2
  ·exact G.there b o ((other b hb).trans e1)
 ·obtain⟨T',h1,h2⟩:=G.thr
  exact⟨T',by rwa [Heap.size_after_update]at h1,h2⟩
theorem z8m{env:Env}{e:Value}{Q:Unit->Shared->Prop}(h:wpAny M A (noteFrame e env) (fun _ s'=>wpAny M A (setFlight e none) Q E s') E s):wpAny M A (leaving env e) Q E s:=by
 unfold leaving
 exact wpAny_bind h
end
end L2
namespace L2
open PySem PySem.Spec PyProof.Rows
theorem ObjOk.some{P:Program}{w:World}{H:Hp}{h:Heap}{a:Addr}{o:HO}(x:ObjOk P w H h a o):∃ob,h.get? a=Option.some ob:=by
 cases q:h.get? a with
 |some ob=>exact⟨ob,rfl⟩
 |none=>
  have y:ObjOk P w H h a o:=x
  induction o with
  |lst xs=>obtain⟨_,_,_,_,e⟩:=x;rw [q]at e;cases e
  |tup xs=>obtain⟨_,_,_,_,e,_⟩:=x;rw [q]at e;cases e
  |dK kvs=>obtain⟨_,_,_,_,_,_,_,e,_⟩:=x;rw [q]at e;cases e
  |dT kvs=>obtain⟨_,_,_,_,_,_,_,e,_⟩:=x;rw [q]at e;cases e
  |set S n=>obtain⟨_,_,_,_,e,_⟩:=x;rw [q]at e;cases e
  |ins C dx fs=>obtain⟨_,_,_,e,_⟩:=x;rw [q]at e;cases e
  |own y=>obtain⟨_,e⟩:=x;rw [q]at e;cases e
  |xd fs=>obtain⟨_,⟨_,_,_,e,_⟩,_⟩:=x;rw [q]at e;cases e
  |met f y=>have e:=x;unfold ObjOk at e;rw [q]at e;cases e
  |rng lo hi=>obtain⟨_,_,_,e⟩:=x;rw [q]at e;cases e
  |frz ob u ih=>have e:=x.1;rw [q]at e;cases e
  |tbl ps=>have e:=x;unfold ObjOk at e;rw [q]at e;cases e
  |ext φ=>obtain⟨_,⟨_,e⟩,_⟩:=x;rw [q]at e;cases e
section
variable{X:Cx}{pins:List (Addr×Obj)}{σ:St}{H:Hp}{s:Shared}
def FpX(X:Cx)(pins:List (Addr×Obj))(H:Hp)(b:Addr):Prop:=
 H b=none∧b≠X.env.locals∧(b∈X.ex∨X.s₀.heap.get? b=none)∧(∀x c,X.env.cells.lookup x=some c->c≠b)∧∀p∈X.pn++pins,p.1≠b
theorem Inv.fpX{H':Hp}{b:Addr}(I:Inv X pins σ H s)(hb:s.heap.get? b=none)(hn:H' b=none):FpX X pins H' b:=by
 refine⟨hn,fun z=>?_,?_,fun x c e z=>?_,fun p hp z=>?_⟩
 ·obtain⟨m,⟨o,_,_,ho,_⟩,_⟩:=I.loc
  rw [←z,hb]at ho
  cases ho
 ·by_cases hx:b∈X.ex
  ·exact .inl hx
  ·refine .inr ?_
   cases q:X.s₀.heap.get? b with
   |none=>rfl
   |some o=>
    obtain⟨o',e⟩:=I.base.there b o q hx
    rw [hb]at e
    cases e
 ·obtain⟨v,o,ho,_⟩:=I.cell x c e
  rw [z,hb]at ho
  cases ho
 ·have:=(I.pin p hp).1
  rw [z,hb]at this
  cases this
theorem Inv.fresh0{b:Addr}(I:Inv X pins σ H s)(hb:s.heap.get? b=none):H b=none:=by
 cases q:H b with
 |none=>rfl
 |some u=>
  obtain⟨o,e⟩:=(I.hok b u q).some
  rw [hb]at e
  cases e
theorem Inv.gone3{ch:List Addr}{h':Heap}(I:Inv X pins σ H s)(gk:∀b o,b∉frs X.stack->b∉ch->s.heap.get? b=some o->h'.get? b=some o)(gs:∀b o,b∈frs X.stack->b∉ch->s.heap.get? b=some o->∃sl,h'.get? b=some { o with slots:=sl })(gt:∀b o,s.heap.get? b=some o->∃o',h'.get? b=some o')(hch:∀b∈ch,FpX X pins H b):Inv X pins σ H { s with heap:=h' }:=by
 have nS:∀b u,H b=some u->b∉frs X.stack:=fun b u q z=>by rw [I.stkFree b z]at q;cases q
 have nC:∀b u,H b=some u->b∉ch:=fun b u q z=>by rw [(hch b z).1]at q;cases q
 have hok:HOk X.prog X.w H h':=fun b u q=>(I.hok b u q).stay (fun c v hc e=>by
  rcases hc with rfl | z
  ·exact gk _ v (nS _ u q) (nC _ u q) e
  ·exact gk c v (nS c _ z) (nC c _ z) e) (fun _ q=>q) fun _ _ q=>q
 have any:∀b o,b∉ch->s.heap.get? b=some o->∃sl,h'.get? b=some { o with slots:=sl }:=fun b o hc q=>by
  by_cases hb:b∈frs X.stack
  ·exact gs b o hb hc q
  ·exact⟨o.slots,gk b o hb hc q⟩
 have new:∀b o,X.s₀.heap.get? b=some o->b∉X.ex->b∉ch:=fun b o q hx z=>by
  rcases (hch b z).2.2.1 with y | y
  ·exact hx y
  ·rw [y]at q;cases q
 have kp:∀b o,b≠X.env.locals->b∉X.fs->b∉ch->s.heap.get? b=some o->h'.get? b=some o:=fun b o hL hb hc q=>
  gk b o (fun z=>(ai.mp (I.stkSub b z)).elim hL hb) hc q
 have old:∀b o,X.s₀.heap.get? b=some o->b≠X.env.locals:=fun b o q=>aC (aM (Heap.lt_size q) I.ok.above)
 have cellK:∀x c,X.env.cells.lookup x=some c->∀v,s.heap.IsCell c v->h'.IsCell c v:=fun x c q v ⟨o,ho,hd⟩=>by
  obtain⟨sl,y⟩:=any c o (fun z=>(hch c z).2.2.2.1 x c q rfl) ho
  exact⟨_,y,hd⟩
 refine⟨I.ok,I.os,I.bare,⟨?_,?_,fun b o q n hx=>I.base.free b o q n hx,?_,I.base.tups,I.base.frzs,I.base.tbls⟩,?_,?_,I.free,I.freeC,?_,hok,I.len⟩
 ·exact fun b o q n hb hx=>kp b o (old b o q) hb (new b o q hx) (I.base.keep b o q n hb hx)
 ·intro b o q n hb hx
  obtain⟨sl,q1⟩:=I.base.slot b o q n hb hx
  obtain⟨sl',q2⟩:=any b _ (new b o q hx) q1
  exact⟨sl',q2⟩
 ·intro b o q hx
  obtain⟨o',q1⟩:=I.base.there b o q hx
  exact gt b o' q1
 ·obtain⟨m,⟨o,es,ep,ho,r⟩,hl⟩:=I.loc
  obtain⟨sl,hL⟩:=any _ o (fun z=>(hch _ z).2.1 rfl) ho
  refine⟨m,⟨_,es,ep,hL,r⟩,fun i x v e1 e2 e3=>?_⟩
  obtain⟨u,r,l⟩:=hl i x v e1 e2 e3
  exact⟨u,r,l.imp id fun⟨k,c,q,z⟩=>⟨k,c,q,cellK x c q _ z⟩⟩
 ·intro x c q
  obtain⟨v,z⟩:=I.cell x c q
  exact⟨v,cellK x c q v z⟩
 ·intro p hp
  obtain⟨q,n,ne,nf,d⟩:=I.pin p hp
  exact⟨kp p.1 p.2 ne nf (fun z=>(hch p.1 z).2.2.2.2 p hp rfl) q,n,ne,nf,d⟩
theorem Inv.gone{ch:List Addr}{e:Addr}{cls:Value}{h':Heap}(I:Inv X pins σ H s)(G:Gone (frs X.stack) ch e cls s.heap h')(hch:∀b∈ch,FpX X pins H b):Inv X pins σ H { s with heap:=h' }:=I.gone3 G.keep G.slot G.there hch
end
def CXE(P:Program)(w:World):CXT:=fun outer H s E e s'=>∃(ea T:Addr) (cls:Value) (H':Hp),e = .ref ea∧s'.os=s.os∧AllBare s'.gens∧Un (frs outer) [] H H' s.heap s'.heap∧HOk P w H' s'.heap ∧
 s.heap.get? ea=none∧s.heap.get? T=none∧H' ea=none∧H' T=none∧Thr s'.heap ea T cls∧E cls none H'
section
variable{P:Program}{w:World}{K:aa}{mg:Str->Option Value}{base:Heap}{N:List Str}{qual:Str}{scope:Scope}{f:Addr}{cd:Value}{A:Around}{outer:List Env}{s:Shared}{H:Hp}{E:XK}
theorem y8u{pins:List (Addr×Obj)}{σ:St}{H1:Hp}{s1:Shared}{e:Addr}{cls:Value}(I:Inv (y2F (CXE P w) P w K mg base N qual scope f cd A outer s H E) pins σ H1 s1)
  (hf:FpX (y2F (CXE P w) P w K mg base N qual scope f cd A outer s H E) pins H1 e) (ht:Thr0 s1.heap e cls) (hE:E cls none H1):(y2F (CXE P w) P w K mg base N qual scope f cd A outer s H E).xe (.ref e) s1:=by
 refine z8m (y4V (base:=base) (outer:=outer) I.ok.frames I.stack rfl ht fun h' G=>?_)
 have I':=I.gone G fun b hb=>by rw [ax.mp hb];exact hf
 obtain⟨T,hT,th⟩:=G.thr
 have he:s.heap.get? e=none:=by
  rcases hf.2.2.1 with z | z
  ·exact absurd (show e∈([]:List Addr) from z) (by simp)
  ·exact z
 exact⟨e,T,cls,H1,rfl,I'.os,I'.bare,I'.base,I'.hok,he,Heap.get?_none_of_le (ba I.sz hT),hf.1,I.hok.fresh hT,th,hE⟩
end
end L2
namespace L2
open PySem PySem.Spec PyProof.Rows
section
variable{X:Cx}{x:Str}{C:Addr}{B Bn newId nid initId inN:String}{bm bmN:List Value}{np cpos pos:Pos}{e₀:Expr}{te:TE}
def tRaise(te:TE)(R:St->Hp->Prop):TS:=fun _ σ H=>te σ H fun _ H1=>R σ H1
def Want(X:Cx)(C:Addr)(R:St->Hp->Prop):Prop:=∀(pins:List (Addr×Obj)) (σ:St) (H:Hp) (s:Shared) (e:Addr),Inv X pins σ H s->FpX X pins H e->Thr0 s.heap e (.ref C)->R σ H->X.xe (.ref e) s
theorem x1A{R:St->Hp->Prop}(hc:X.calm=true)(hg:Gl X x)(O:OwnCls x C bm newId X.mg X.base)(Fn:ExcBaseFacts Bn newId inN bmN)(hBn:bm.contains (.type Bn)=true)(FB:ExcBaseFacts B nid initId bm)(hW:Want X C R)(h:PE X e₀ te)
  (he:starEach [e₀] X.env=[(false,eval e₀ X.env)]:=by rfl) (hd:(x==("__debug__" : Str))=false:=by decide):PS X (.Raise (some (.Call (.Name x np) [e₀] [] cpos)) none pos) (tRaise te R):=by
 intro pins s σ H D I hq
 obtain⟨tl,N,nm,q,bs,hdct,sn,sub,ab,col,dd,k0,k1,k2,k3,k5,mN,hC,hN,hni,T⟩:=O.obj
 refine wpAny_Raise_call_subU (C:=C) (nm:=nm) (q:=q) (N:=N) (bs:=bs) (bm:=tl) (hdct:=hdct) (sn:=sn) (sub:=sub) (ab:=ab) (col:=col) (dd:=dd) (k0:=k0) (k1:=k1) (k2:=k2) (k3:=k3) (k5:=k5)
  Fn hBn FB (mN:=mN) (T.hasType FB.hasBase) (I.ok.hd hc) (by rw [he];rfl) hni (y1O I hg O.bound ⟨rfl,?_⟩ hd)
 have ha:=(z1V h pa_nil he) cpos pins s σ H (fun vs H1=>match vs with
  |[_]=>R σ H1
  |_=>False) I hq
 rw [he]at ha ⊢
 refine Calls.evalArgs_plain (thn ha fun us s2 ⟨vs,H2,I2,r2,q2⟩=>?_)
 cases r2 with
 |nil=>exact(show False from q2).elim
 |cons r r3=>
  cases r3 with
  |cons _ _=>exact(show False from q2).elim
  |nil=>
   refine⟨rfl,by show 1≤sizeLine;rw [sizeLine_eq];omega,I2.bk _ _ hC,hN.keeps I2.bk,T.keeps I2.bk,fun h' e hm=>?_⟩
   obtain⟨t,he',_⟩:=hm.there
   have I3:Inv X pins σ H2 { s2 with heap:=h' }:=I2.kept (t':=s2.toks) hm.keeps
   exact hW pins σ H2 _ e I3 (I2.fpX hm.new (I2.fresh0 hm.new)) ⟨_,_,he',rfl,rfl,rfl,rfl⟩ q2
variable{H0:Hp}{B0:Addr->Prop}{fr:Bool}{RX:XR}
def z6a(c:Nat)(f:DE):SS->Option Out:=fun δ=>(f (z0u δ)).map fun _=>.ex c δ
theorem s_raise{c:Nat}{f:DE}(hc:X.calm=true)(hg:Gl X x)(O:OwnCls x C bm newId X.mg X.base)(Fn:ExcBaseFacts Bn newId inN bmN)(hBn:bm.contains (.type Bn)=true)(FB:ExcBaseFacts B nid initId bm)(hW:Want X C (RX c))(h:PD X e₀ f)
  (he:starEach [e₀] X.env=[(false,eval e₀ X.env)]:=by rfl) (hd:(x==("__debug__" : Str))=false:=by decide):PS X (.Raise (some (.Call (.Name x np) [e₀] [] cpos)) none pos) (tS X.K H0 B0 fr RX (z6a c f)):=
 PS.imp (x1A hc hg O Fn hBn FB hW h he hd) fun D σ H ⟨δ,R,o,rs,q,k⟩=>by
  unfold z6a at q
  cases e:f (z0u δ)with
  |none=>rw [e]at q;cases q
  |some d=>
   rw [e]at q
   cases q
   exact⟨noB,z0u δ,d,.no,rs.all,e,fun v H1 s1 r1=>k σ H1 R (rs.mono s1) (.same s1)⟩
end
end L2
namespace L2
open PySem PySem.Spec PyProof.Rows
inductive XO where
 |val (d:D) | exc (c:Nat)
def spX(K:aa)(cl:Nat->Value)(m:List D->Option XO):Sp:=fun vs H Q E=>∃ds o,Reps K H noB ds vs∧m ds=some o∧(match o with
 |.val d=>∀v H' A,Same H H'->Tree K H' d v A->A.Nodup->(∀a∈A,H a=none)->Q v H'
 |.exc c=>∀H',Same H H'->E (cl c) none H')
def x3t(np nl:Nat)(g:SS->Option Out):List D->Option XO:=fun ds=>if ds.length=np then(match g (ds.map (fun d=>some (.sh d))++ak nl none)with
 |some (.rt d)=>some (.val d)
 |some (.nx _)=>some (.val .non)
 |some (.ex c _)=>some (.exc c)
 |_=>none)else none
theorem y3W{np nl:Nat}{g:SS->Option Out}{ds:List D}{o:XO}(h:x3t np nl g ds=some o):ds.length=np:=by
 unfold x3t at h
 split at h
 ·assumption
 ·cases h
abbrev defRX(cl:Nat->Value)(E:XK):XR:=fun c _ H1=>E (cl c) none H1
section
variable{P:Program}{w:World}{K:aa}{mg:Str->Option Value}{base:Heap}
theorem fnX{x qual:Str}{st:Stmt}{f:Addr}{fd:FuncData}{N ps:List Str}{k np nl:Nat}{g:SS->Option Out}{cl:Nat->Value}(F:Fun K x qual st f fd)(S:FnScope N ps (z0e st))(hnp:ps.length=np)(hN:N.length=np+nl)
  (hbody:∀(cdv:Value) (A:Around) (outer:List Env) (s:Shared) (H:Hp) (E:XK),Room k (A.deeper (envOfC qual (z0e st) s.heap.objs.size f cdv)) →
   PSs (y2F (CXE P w) P w K mg base N qual (z0e st) f cdv A outer s H E) (z1q st) (tS K H noB true (defRX cl E) g)):FnOk P w K mg base (CXE P w) (k+1) f fd ps (spX K cl (x3t np nl g)):=by
 obtain⟨oc,od,kV,doc,pm,an,cdv,ct,osl,rfl,lk,hcd⟩:=F.ex
 refine fn_of lk hcd S (fun vs H Q E h=>?_) fun A outer s H vs Q E hr h=>?_
 ·obtain⟨ds,o,r,e,_⟩:=h
  rw [←r.length,y3W e,hnp]
 ·obtain⟨ds,o,r,e,kk⟩:=h
  refine⟨_,hbody cdv A outer s H E hr,?_⟩
  have hl:=y3W e
  unfold x3t at e
  rw [if_pos hl]at e
  have rs:=z9h (nl:=nl) .no r (N:=N) (by omega)
  split at e
  ·rename_i d' eg
   cases e
   exact⟨_,_,_,rs,eg,fun v H' z _=>by
    obtain⟨A',t,nd,fr⟩:=z.2.1 rfl
    exact kk v H' A' z.1 t nd fr⟩
  ·rename_i δ' eg
   cases e
   exact⟨_,_,_,rs,eg,fun σ' H' R' rs' _=>kk .non H' [] rs'.keep ⟨rfl,rfl⟩ bi (fun a z=>nomatch z)⟩
  ·rename_i c δ' eg
   cases e
   exact⟨_,_,_,rs,eg,fun σ' H' R' rs' _=>kk H' rs'.keep⟩
  ·cases e
structure DefX(P:Program)(w:World)(K:aa)(mg:Str->Option Value)(base:Heap)(k:Nat)(x:Str)(sp:Sp):Prop where
 ok:∃(f:Addr) (fd:FuncData) (ps:List Str),mg x=some (.ref f)∧bV K (.ref f)=true∧Binds K fd ps []∧FnOk P w K mg base (CXE P w) k f fd ps sp
def XW(X:Cx)(cl:Nat->Value)(RX:XR):Prop:=∀(pins:List (Addr×Obj)) (σ:St) (H:Hp) (s:Shared) (ea T:Addr) (c:Nat),Inv X pins σ H s->FpX X pins H ea->FpX X pins H T->Thr s.heap ea T (cl c)->RX c σ H->X.xe (.ref ea) s
theorem xw_def{N:List Str}{qual:Str}{scope:Scope}{f:Addr}{cd:Value}{A:Around}{outer:List Env}{s:Shared}{H:Hp}{E:XK}{cl:Nat->Value}:XW (y2F (CXE P w) P w K mg base N qual scope f cd A outer s H E) cl (defRX cl E):=by
 intro pins σ H1 s1 ea T c I fe fT th hE
 refine z8m (y6V (base:=base) (outer:=outer) I.ok.frames I.stack rfl th fun h' G=>?_)
 have I':=I.gone G fun b hb=>by
  rcases ai.mp hb with rfl | hb
  ·exact fe
  ·rw [ax.mp hb];exact fT
 obtain⟨T',hT,th'⟩:=G.thr
 have he:s.heap.get? ea=none:=by
  rcases fe.2.2.1 with z | z
  ·exact absurd (show ea∈([]:List Addr) from z) (by simp)
  ·exact z
 exact⟨ea,T',cl c,H1,rfl,I'.os,I'.bare,I'.base,I'.hok,he,Heap.get?_none_of_le (ba I.sz hT),fe.1,I.hok.fresh hT,th',hE⟩
theorem z8P{N:List Str}{qual:Str}{scope:Scope}{f C:Addr}{cd:Value}{A:Around}{outer:List Env}{s:Shared}{H:Hp}{E:XK}{cl:Nat->Value}{c:Nat}(hc:cl c = .ref C):Want (y2F (CXE P w) P w K mg base N qual scope f cd A outer s H E) C (defRX cl E c):=
 fun pins σ H1 s1 e I hf ht hE=>y8u I hf ht (by rw [←hc];exact hE)
end
section
variable{X:Cx}{k:Nat}{f:Addr}{fd:FuncData}{ps:List Str}{sp:Sp}{cl:Nat->Value}{RX:XR}
theorem run_fnX{pins:List (Addr×Obj)}{σ:St}{H:Hp}{s:Shared}{Q:VK}{us:List Value}{vs:List V}(F:FnOk X.prog X.w X.K X.mg X.base (CXE X.prog X.w) k f fd ps sp)(hr:Room k X.A)(hb:Binds X.K fd ps [])(hW:XW X cl RX)
  (I:Inv X pins σ H s) (r:Vals vs us) (h:sp vs H Q (fun cls _ H'=>∃c,cls=cl c∧RX c σ H')):wpAny (model X.prog X.w) X.A (call (.ref f) us) (EP X pins σ Q) X.xe s:=by
 have hl:us.length=ps.length:=by rw [←r.length];exact F.len _ _ _ _ h
 have hb':=hb s us I.kIn (by rw [aP];exact hl)
 rw [aP]at hb'
 refine wpAny_call (codeAny_mono (F.run X.A X.stack s H ⟨us,[]⟩ us vs Q _ hr I.env0 hb' r h) fun r s' hq=>?_)
 cases r with
 |error e=>
  obtain⟨ea,T,cls,H',rfl,os,bare,un,hok,h1,h2,h3,h4,th,c,rfl,rx⟩:=hq
  exact hW pins σ H' s' ea T c (I.call' os un hok bare fun b hb=>nomatch hb) (I.fpX h1 h3) (I.fpX h2 h4) th rx
 |ok fl=>
  cases fl with
  |ret u=>exact I.after hq
  |next=>exact False.elim hq
  |brk=>exact False.elim hq
  |cont=>exact False.elim hq
end
end L2
namespace L2
open PySem PySem.Spec PyProof.Rows
section
variable{X:Cx}{k:Nat}{sp:Sp}{cl:Nat->Value}{RX:XR}{x:Str}{p pos pos2:Pos}{e:Expr}{es:List Expr}{t:TA}
def tCallX(cl:Nat->Value)(RX:XR)(sp:Sp)(t:TA):TE:=fun σ H Q=>t σ H fun vs H1=>sp vs H1 Q fun cls _ H'=>∃c,cls=cl c∧RX c σ H'
theorem x1W(G:DefX X.prog X.w X.K X.mg X.base k x sp)(hr:Room k X.A)(hg:Gl X x)(hW:XW X cl RX)(ha:PA X (e::es) t)(hdb:(x==("__debug__" : Str))=false:=by decide)
  (he:starEach (e::es) X.env=(false,eval e X.env)::starEach es X.env:=by rfl) (hpl:(backTo pos (starEach es X.env)).any (·.1)=false:=by rfl):PE X (.Call (.Name x p) (e::es) [] pos) (tCallX cl RX sp t):=by
 obtain⟨f,fd,ps,hm,hk,hb,ok⟩:=G.ok
 intro pins s σ H Q I h
 refine wpAny_Call_Name_kw (y1O I hg hm ?_ hdb)
 refine ff (h₀:=X.base) I.ok.mod.kin hk (thn (ha pos pins s σ H _ I h) fun us s1 ⟨vs,H1,I1,r,q⟩=>⟨I1.kIn,?_⟩) he hpl
 exact run_fnX ok hr hb hW I1 r q
def tX(K:aa)(RX:XR)(F:DS->Option XO):TE:=fun σ H Q=>∃δ o,RepS K H noB σ δ∧F δ=some o∧(match o with
 |.val d=>∀v H' A,Same H H'->Tree K H' d v A->A.Nodup->(∀a∈A,H a=none)->Q v H'
 |.exc c=>∀H',Same H H'->RX c σ H')
def z8e(m:List D->Option XO)(fl:List DE):DS->Option XO:=fun δ=>(z0o fl δ).bind m
theorem y6S{m:List D->Option XO}{fl:List DE}(G:DefX X.prog X.w X.K X.mg X.base k x (spX X.K cl m))(hr:Room k X.A)(hg:Gl X x)(hW:XW X cl RX)(ha:PAD X (e::es) fl)(hdb:(x==("__debug__" : Str))=false:=by decide)
  (he:starEach (e::es) X.env=(false,eval e X.env)::starEach es X.env:=by rfl) (hpl:(backTo pos (starEach es X.env)).any (·.1)=false:=by rfl):PE X (.Call (.Name x p) (e::es) [] pos) (tX X.K RX (z8e m fl)):=
 (x1W G hr hg hW ha hdb he hpl).imp fun σ H Q ⟨δ,o,S,q,kk⟩=>by
  unfold z8e at q
  cases e1:z0o fl δ with
  |none=>rw [e1]at q;cases q
  |some ds=>
   rw [e1,aq]at q
   refine⟨noB,δ,ds,.no,S,e1,fun vs H1 s1 r1=>⟨ds,o,r1,q,?_⟩⟩
   cases o with
   |val d=>exact fun v H' A s' t nd fr=>kk v H' A (s1.trans s') t nd fun a ha=>s1.free (fr a ha)
   |exc c=>exact fun H' s'=>⟨c,rfl,kk H' (s1.trans s')⟩
variable{H0:Hp}{B0:Addr->Prop}{fr:Bool}{F:DS->Option XO}
def y8X(F:DS->Option XO):SS->Option Out:=fun δ=>(F (z0u δ)).map fun o=>match o with
 |.val _=>.nx δ
 |.exc c=>.ex c δ
theorem s_exprX(h:PE X e (tX X.K RX F))(hs:swapsWith e none pos.line X.env=pure false:=by rfl):PS X (.Expr e pos) (tS X.K H0 B0 fr RX (y8X F)):=PS.imp (z6V h hs) fun D σ H ⟨δ,R,o,rs,q,k⟩=>by
 unfold y8X at q
 cases e1:F (z0u δ)with
 |none=>rw [e1]at q;cases q
 |some o1=>
  rw [e1]at q
  refine⟨z0u δ,o1,rs.all,e1,?_⟩
  cases o1 with
  |val d=>
   cases q
   exact fun v H' A s t nd fr'=>k σ H' R (rs.mono s) (Stp.same s)
  |exc c=>
   cases q
   exact fun H' s=>k σ H' R (rs.mono s) (.same s)
end
end L2
namespace L2
open PySem PySem.Spec PyProof.Rows
section
variable{X:Cx}{pins:List (Addr×Obj)}{σ:St}{H:Hp}{s:Shared}{e:Value}
end
section
variable{X:Cx}{cls:Value}{x:Str}{C:Addr}{np hpos:Pos}{b₀:Stmt}{suite:List Stmt}{rest:List ExceptHandler}{t:TS}
end
end L2
namespace L2
open PySem PySem.Spec PyProof.Rows
section
variable{X:Cx}{pins pn:List (Addr×Obj)}{xe:Value->Shared->Prop}{σ:St}{H:Hp}{s:Shared}
end
section
variable{X:Cx}{H0:Hp}{B0:Addr->Prop}{fr:Bool}{RX:XR}{cl:Nat->Value}{body:List Stmt}{h₀:ExceptHandler}{hs:List ExceptHandler}{pos:Pos}
end
end L2
namespace L2
open PySem PySem.Spec PyProof.Rows
section
variable{K:aa}{H0 H:Hp}{B0:Addr->Prop}{σ:St}{δ:SS}{R:Nat->List Addr}
def movS(i j:Nat)(d:D)(δ:SS):SS:=((z0z j δ).set j none).set i (some (.ow d))
theorem z8Y{i j k:Nat}{d:D}{x:SD}(h:(movS i j d δ)[k]? = some (some x)):(k=i∧x = .ow d∧i<δ.length)∨(k≠i∧k≠j∧δ[k]? = some (some x)∧∀d,x≠.bo j d):=by
 unfold movS at h
 rcases z1D h with⟨e,q,hl⟩ | ⟨hk,q⟩
 ·cases q
  refine .inl ⟨e,rfl,?_⟩
  rw [cQ]at hl
  unfold z0z at hl
  rwa [am]at hl
 ·rcases z1D q with⟨e,q',_⟩ | ⟨hj,q'⟩
  ·cases q'
  ·exact .inr ⟨hk,hj,z2g q'⟩
theorem RS.mov{i j:Nat}{d:D}{v:V}(hij:i≠j)(h:RS K H0 B0 H σ δ R)(t:Tree K H d v (R j))(nd:(R j).Nodup):RS K H0 B0 H (σ.set i (some v)) (movS i j d δ) (z5W (z5W R j []) i (R j)):=by
 have up:∀{k:Nat} {w:V},k≠i->σ[k]? = some (some w)->(σ.set i (some v))[k]? = some (some w):=fun hj e=>by rw [bp (Ne.symm hj)];exact e
 have mem:∀r a,a∈z5W (z5W R j []) i (R j) r->(r=i∧a∈R j)∨(r≠i∧r≠j∧a∈R r):=fun r a z=>by
  by_cases hr:r=i
  ·subst hr;rw [z0C]at z;exact .inl ⟨rfl,z⟩
  ·rw [z0T hr]at z
   by_cases hj:r=j
   ·subst hj;rw [z0C]at z;cases z
   ·rw [z0T hj]at z;exact .inr ⟨hr,hj,z⟩
 refine⟨h.keep,h.inB,by unfold movS z0z;simp [h.len],fun r a z=>?_,fun r a z=>?_,fun r s a z z'=>?_,fun k d' z=>?_,fun k r' d' z=>?_,fun k d' z=>?_⟩
 ·rcases mem r a z with⟨_,z⟩ | ⟨_,_,z⟩ <;> exact h.new _ a z
 ·rcases mem r a z with⟨_,z⟩ | ⟨_,_,z⟩ <;> exact h.held _ a z
 ·rcases mem r a z with⟨h1,z⟩ | ⟨h1,h1',z⟩ <;> rcases mem s a z' with⟨h2,z'⟩ | ⟨h2,h2',z'⟩
  ·rw [h1,h2]
  ·exact absurd (h.disj s j a z' z) h2'
  ·exact absurd (h.disj r j a z z') h1'
  ·exact h.disj r s a z z'
 ·rcases z8Y z with⟨_,q,_⟩ | ⟨h1,h2,q,_⟩
  ·cases q
  ·obtain⟨w,e1,r⟩:=h.sh k d' q
   refine⟨w,up h1 e1,r.anti fun a z=>z.imp id fun⟨r,z⟩=>?_⟩
   rcases mem r a z with⟨_,z⟩ | ⟨_,_,z⟩ <;> exact⟨_,z⟩
 ·rcases z8Y z with⟨_,q,_⟩ | ⟨h1,h2,q,hn⟩
  ·cases q
  ·obtain⟨w,e1,r⟩:=h.bo k r' d' q
   have hr':r'≠j:=fun e=>hn d' (by rw [e])
   refine⟨w,up h1 e1,r.anti fun a z=>z.imp id fun⟨s,hs,z⟩=>?_⟩
   rcases mem s a z with⟨_,z⟩ | ⟨_,_,z⟩
   ·exact⟨j,Ne.symm hr',z⟩
   ·exact⟨s,hs,z⟩
 ·rcases z8Y z with⟨e,q,hl⟩ | ⟨h1,h2,q,_⟩
  ·cases q
   subst e
   rw [z0C]
   exact⟨v,by rw [cw];simp [←h.len,hl],t,nd⟩
  ·obtain⟨w,e1,t'⟩:=h.ow k d' q
   rw [z0T h1,z0T h2]
   exact⟨w,up h1 e1,t'⟩
end
section
variable{X:Cx}{H0:Hp}{B0:Addr->Prop}{fr:Bool}{RX:XR}{pos:Pos}{st:Stmt}
def movO(i j:Nat):SS->Option Out:=fun δ=>match δ[j]? with
 |some (some (.ow d))=>some (.nx (movS i j d δ))
 |_=>none
theorem s_mov{i j:Nat}(hij:i≠j)(h:PAsg X st i (y1u j)):PS X st (tS X.K H0 B0 fr RX (movO i j)):=PS.imp h fun D σ H ⟨δ,R,o,rs,q,k⟩=>by
 unfold movO at q
 split at q
 ·rename_i d e
  cases q
  obtain⟨v,e1,t,nd⟩:=rs.ow j d e
  refine⟨v,e1,k _ H _ (rs.mov hij t nd) ⟨fun a o h _=>h,fun r a z=>?_,fun a z=>z⟩⟩
  by_cases hr:r=i
  ·subst hr;rw [z0C]at z;exact .inl ⟨j,z⟩
  ·rw [z0T hr]at z
   by_cases hj:r=j
   ·subst hj;rw [z0C]at z;cases z
   ·rw [z0T hj]at z;exact .inl ⟨r,z⟩
 ·cases q
end
end L2
namespace L2
open PySem PySem.Spec PyProof.Rows
theorem x2i{X:Cx}{H0:Hp}{B0:Addr->Prop}{fr:Bool}{RX:XR}{body:List Stmt}:PSs X body (tS X.K H0 B0 fr RX fun _=>none):=fun _ _ _ _ _ _ ⟨_,_,_,_,e,_⟩=>nomatch e
section
variable{X:Cx}
end
def revS:D->Option (List D)
 |.lst ds=>some ds.reverse
 |_=>none
section
variable{X:Cx}
end
end L2
namespace L2
open PySem PySem.Spec PyProof.Rows
section
variable{X:Cx}{c e:Expr}{fc:DS->Option Bool}{fe:DE}{f g:DS->Option (Option D)}{st:Stmt}{sts:List Stmt}{p1 pos:Pos}
end
section
variable{X:Cx}{H0:Hp}{B0:Addr->Prop}{fr:Bool}{RX:XR}{pos:Pos}
end
end L2
namespace L2
open PySem PySem.Spec PyProof.Rows
abbrev bmVE:List Value:=[.type "ValueError",.type "Exception",.type "BaseException",.type "object"]
theorem own_mk{K:aa}{h:Heap}{mg:Str->Option Value}{x:Str}{C:Addr}{bl:List Value}{nid:String}(X:K.In h)(G:h.Ns mainGlobals mg)(ha:aO K mainGlobals x=some (some (.ref C)))(hq:d9 K C bl nid=true):OwnCls x C bl nid mg h:=by
 refine⟨d8 X G ha,?_⟩
 unfold d9 at hq
 cases hk:K.lookup C with
 |none=>rw [hk]at hq;cases hq
 |some ob=>
  rw [hk]at hq
  have hat:=X _ _ hk
  split at hq
  case h_2=>cases hq
  case h_1 od cls sl z=>
   cases z
   split at hq
   case h_2=>cases hq
   case h_1 C1 tl b0 b1 b2 b3 n b5 em es=>
    simp only [aH,beq_iff_eq,dO]at hq
    obtain⟨⟨⟨⟨⟨z1,z2⟩,z3⟩,z4⟩,z5⟩,z6⟩:=hq
    cases cls with
    |mk nm bs mro ns qn hd sn sub ab col del=>
     cases sl with
     |mk l=>
      dsimp only at em es z3 z5 z6
      rw [em,es,z3,z1,z2]at hat
      exact⟨tl,ns,nm,qn,bs,hd,sn,sub,ab,col,od,b0,b1,b2,b3,b5,_,hat,.of_isNs (PySem.W.isNs_of_in X z5),PySem.W.nsMap_none_of_in X z5 z6,PySem.W.tail_of_in X z4⟩
section
variable{X:Cx}{x:Str}{C:Addr}{np cpos pos:Pos}{e₀:Expr}{H0:Hp}{B0:Addr->Prop}{fr:Bool}{RX:XR}
theorem z9x{c:Nat}{f:DE}(hc:X.calm=true)(hg:Gl X x)(O:OwnCls x C bmVE "ValueError.__new__" X.mg X.base)(hW:Want X C (RX c))(h:PD X e₀ f)
  (he:starEach [e₀] X.env=[(false,eval e₀ X.env)]:=by rfl) (hd:(x==("__debug__" : Str))=false:=by decide):PS X (.Raise (some (.Call (.Name x np) [e₀] [] cpos)) none pos) (tS X.K H0 B0 fr RX (z6a c f)):=
 s_raise hc hg O PySem.F.excBase_ValueError (by decide) PySem.F.excBase_ValueError hW h he hd
end
end L2
namespace L2
open PySem PySem.Spec PyProof.Rows
def valO:Option XO->Option D
 |some (.val d)=>some d
 |_=>none
def y4f(m:List D->Option XO)(fl:List DE):DE:=fun δ=>valO (z8e m fl δ)
section
variable{X:Cx}{k:Nat}{cl:Nat->Value}{x:Str}{p pos:Pos}{e:Expr}{es:List Expr}
theorem xw_no:XW X cl noX:=fun _ _ _ _ _ _ _ _ _ _ _ h=>h.elim
theorem x1Y{m:List D->Option XO}{fl:List DE}(G:DefX X.prog X.w X.K X.mg X.base k x (spX X.K cl m))(hr:Room k X.A)(hg:Gl X x)(ha:PAD X (e::es) fl)(hdb:(x==("__debug__" : Str))=false:=by decide)
  (he:starEach (e::es) X.env=(false,eval e X.env)::starEach es X.env:=by rfl) (hpl:(backTo pos (starEach es X.env)).any (·.1)=false:=by rfl):PN X (.Call (.Name x p) (e::es) [] pos) (y4f m fl):=
 (y6S (RX:=noX) G hr hg xw_no ha hdb he hpl).imp fun σ H Q ⟨δ,d,S,q,kk⟩=>by
  unfold y4f at q
  cases e1:z8e m fl δ with
  |none=>rw [e1]at q;cases q
  |some o=>
   rw [e1]at q
   cases o with
   |exc c=>cases q
   |val d'=>
    cases q
    exact⟨δ,.val d,S,e1,kk⟩
end
end L2
namespace L2
open PySem PySem.Spec PyProof.Rows
section
variable{X:Cx}{pins:List (Addr×Obj)}{σ:St}{H:Hp}{s:Shared}
end
section
variable{X:Cx}{x n:Str}{C Ca:Addr}{np hpos:Pos}{b₀:Stmt}{suite:List Stmt}{rest:List ExceptHandler}{t:TS}{i:Nat}
end
section
variable{K:aa}{H0 H:Hp}{B0:Addr->Prop}{σ:St}{δ:SS}{R:Nat->List Addr}
end
section
variable{X:Cx}{e:Expr}{f:DE}{y:Str}{p p2 pos:Pos}{L N:List Str}
end
section
variable{X:Cx}{H0:Hp}{B0:Addr->Prop}{fr:Bool}{RX:XR}{x n xn:Str}{C Ca:Addr}{np hpos:Pos}{b₀:Stmt}{suite:List Stmt}{rest:List ExceptHandler}{g:SS->Option Out}{i:Nat}
end
end L2
namespace L2
open PySem PySem.Spec PyProof.Rows
def tNs(K:aa)(f:DS->Option (List D)):TA:=fun σ H Q=>∃δ ds,RepS K H noB σ δ∧f δ=some ds∧∀vs H' A,Same H H'->Trees K H' ds vs A->A.Nodup->(∀a∈A,H a=none)->Q vs H'
abbrev PAN(X:Cx)(es:List Expr)(fl:List DE):Prop:=PA X es (tNs X.K (z0o fl))
theorem Trees.len{K:aa}{H:Hp}:∀{ds:List D} {xs:List V} {A:List Addr},Trees K H ds xs A->ds.length=xs.length
 |[],_,_,h=>by unfold Trees at h;rw [h.1];rfl
 |d::ds,_,_,h=>by
  unfold Trees at h
  obtain⟨x,r,C,C',rfl,_,h2,_⟩:=h
  simp [Trees.len h2]
section
variable{X:Cx}{e:Expr}{es:List Expr}{pos:Pos}
theorem pan_nil:PAN X [] []:=pa_nil.imp fun σ H Q ⟨δ,ds,S,q,k⟩=>by
 cases q
 exact k [] H [] (.refl H) ⟨rfl,rfl⟩ bi (fun a z=>nomatch z)
theorem x1m{f:DE}{fl:List DE}(ha:PN X e f)(hr:PAN X es fl)(hs:starEach (e::es) X.env=(false,eval e X.env)::starEach es X.env:=by rfl):PAN X (e::es) (f::fl):=(z1V ha hr hs).imp fun σ H Q ⟨δ,ds,S,q,k⟩=>by
 obtain⟨x,xs,e1,e2,rfl⟩:=z5I q
 refine⟨δ,x,S,e1,fun v H1 A s1 t1 nd1 f1=>⟨δ,xs,S.mono s1,e2,fun vs H2 C s2 t2 nd2 f2=>?_⟩⟩
 refine k (v::vs) H2 (A++C) (s1.trans s2) ?_ ?_ fun a ha=>?_
 ·unfold Trees
  exact⟨v,vs,A,C,rfl,t1.mono s2,t2,rfl⟩
 ·refine bf.mpr ⟨nd1,nd2,fun a ha b hb z=>?_⟩
  subst z
  obtain⟨o,q',_⟩:=t1.held x a ha
  rw [f2 a hb]at q';cases q'
 ·rcases ay.mp ha with z | z
  ·exact f1 a z
  ·exact s1.free (f2 a z)
theorem pn_list{fl:List DE}(h:PAN X es fl)(hl:fl.length≤1000:=by decide):PN X (.List es pos) (mkL (z0o fl)):=(y8O h).imp fun σ H Q ⟨δ,d,S,q,k⟩=>by
 unfold mkL at q
 cases r:z0o fl δ with
 |none=>rw [r]at q;cases q
 |some ds=>
  rw [r]at q
  cases q
  refine⟨δ,ds,S,r,fun vs H1 A s1 t1 nd fa=>⟨?_,fun p hp=>?_⟩⟩
  ·rw [←t1.len,z2z r]
   exact cT (z6Z hl)
  ·have sp:=z0n (o:=.lst vs) hp
   refine k (.ref p) _ (p::A) (s1.trans sp) ?_ (av.mpr ⟨fun z=>?_,nd⟩) fun a ha=>?_
   ·unfold Tree
    exact⟨p,vs,A,rfl,z0m,t1.mono sp,rfl⟩
   ·obtain⟨o,q',_⟩:=Trees.held ds t1 p z
    rw [hp]at q';cases q'
   ·rcases ai.mp ha with z | z
    ·rw [z];exact s1.free hp
    ·exact fa a z
variable{H0:Hp}{B0:Addr->Prop}{RX:XR}{a b:Expr}{pos':Pos}
def y1x(δ:SS)(i:Nat):Option D:=match δ[i]? with
 |some (some (.ow d))=>some d
 |some (some (.sh d))=>if d.imm=true then some d else none
 |_=>none
def ret2(i j:Nat):SS->Option Out:=fun δ=>match y1x δ i,y1x δ j with
 |some d,some e=>some (.rt (.lst [d,e]))
 |_,_=>none
theorem z9N{K:aa}{H:Hp}{σ:St}{δ:SS}{R:Nat->List Addr}{i:Nat}{d:D}(rs:RS K H0 B0 H σ δ R)(h:y1x δ i=some d):∃v A,σ[i]? = some (some v)∧Tree K H d v A∧A.Nodup∧∀a∈A,a∈R i:=by
 unfold y1x at h
 split at h
 ·rename_i d' e
  cases h
  obtain⟨v,e1,t,nd⟩:=rs.ow i _ e
  exact⟨v,R i,e1,t,nd,fun a z=>z⟩
 ·rename_i d' e
  split at h
  ·rename_i hi
   cases h
   obtain⟨v,e1,r⟩:=rs.sh i _ e
   exact⟨v,[],e1,r.immTree _ hi,bi,(fun a z=>nomatch z)⟩
  ·cases h
 ·cases h
end
end L2
namespace L2
open PySem PySem.Spec PyProof.Rows
section
variable{X:Cx}{k:Nat}{x:Str}{p pos:Pos}{e:Expr}{es:List Expr}
end
end L2
namespace L2
open PySem PySem.Spec PyProof.Rows
def repLs:D->D->Option (List D)
 |.lst ds,.int k=>if(0≤k∧k≤1000000)∧ds.length*k.toNat≤sizeLine then some (ak k.toNat ds).flatten else none
 |_,_=>none
def dRep(f g:DE):DS->Option (List D):=fun δ=>(f δ).bind fun x=>(g δ).bind fun y=>repLs x y
theorem Reps.rep{K:aa}{H:Hp}{B:Addr->Prop}{ds:List D}{xs:List V}(h:Reps K H B ds xs):∀n:Nat,Reps K H B (ak n ds).flatten (ak n xs).flatten
 |0=>(show Reps K H B [] [] by unfold Reps;rfl)
 |n+1=>by
  rw [bA,bA,bQ,bQ]
  exact h.append (Reps.rep h n)
def dIxX(F:DS->Option XO)(g:DE):DS->Option XO:=fun δ=>match F δ with
 |some (.val d)=>(g δ).bind fun y=>(ixD d y).bind fun z=>if z.imm=true then some (.val z)else none
 |some (.exc c)=>some (.exc c)
 |none=>none
section
variable{X:Cx}{a b:Expr}{pos:Pos}{f g:DE}{RX:XR}
theorem y6W(ha:PD X a f)(hb:PD X b g):PF X (.BinOp a .Mult b pos) (dRep f g):=(pe_op op_rep ha hb).imp fun σ H Q ⟨B,δ,ds,hB,S,q,k⟩=>by
 unfold dRep at q
 cases e1:f δ with
 |none=>rw [e1]at q;cases q
 |some x=>
 rw [e1,aq]at q
 cases e2:g δ with
 |none=>rw [e2]at q;cases q
 |some y=>
 rw [e2,aq]at q
 unfold repLs at q
 split at q
 case h_2=>cases q
 case h_1 xs n=>
 split at q
 case isFalse=>cases q
 case isTrue hl=>
 cases q
 refine⟨B,δ,_,hB,S,e1,fun v H1 s1 r1=>⟨B,δ,_,hB.mono s1,S.mono s1,e2,fun v2 H2 s2 r2=>?_⟩⟩
 unfold Rep at r2
 subst r2
 unfold Rep at r1
 obtain⟨p1,vs,rfl,n1,h1,rs1⟩:=r1
 refine⟨p1,n,vs,rfl,rfl,s2 _ _ h1,by omega,by omega,by rw [←rs1.length];exact hl.2,fun p hp=>?_⟩
 exact k p _ _ ((s1.trans s2).trans (z0n hp)) ((s1.trans s2).free hp) z0m (((rs1.mono s2).rep _).mono (z0n hp))
end
end L2
namespace PySem
open Sem (wp)
theorem y1Q:typeLookup (.type "dict") "__len__" = pure (some (.builtin "dict.__len__")):=by rw [typeLookup_type,builtinLookup_eq_fast];kernel_rfl
section
variable{K:Type}[DecidableEq K]{prog:Program}{w:World}{knd:KeyKind prog w K}{A:Around}{E:Value->Shared->Prop}{s:Shared}
theorem z5o{d:Addr}{kvs:List (K×Value)}{ep:Nat}{Q:List Value->Shared->Prop}(hh:A.in1.handled=none)(hd:(d==sysModules)=false)(hm:s.heap.DictAt knd d kvs ep)(hn:kvs.length≤sizeLine)
  (hQ:∀s' acc,Moved [] (fun a b=>b=a) s s'->ItemsOf (fun i v=>∃k x,kvs[i]? = some (k,x)∧knd.is k v=true) acc kvs.length->Q acc.toList s'):wpAny (model prog w) A (collect (.ref d)) Q E s:=by
 have hlt:(d:Nat)<s.heap.objs.size:=hm.lt_size
 have hSd:s.heap.objs.size≠d:=fun e=>bN _ (e ▸ hlt)
 unfold collect
 refine wpAny_bind (wpAny_runValue (codeAny_builtin F.entry_proto_collect ?_))
 rw [Around.under_plainId F.plain_proto_collect _]
 show wpAny _ A.in1 (newList [] >>= fun l=>again (.builtin "list.__iadd__" ⟨[l,.ref d],[]⟩)) _ _ s
 refine wpAny_bind (wpAny_newObj_type ?_)
 refine wpAny_pure ⟨plainId_quiet F.plain_list_iadd _,codeAny_builtin F.entry_list_iadd ?_⟩
 rw [Around.under_plainId F.plain_list_iadd _]
 have hm1:=hm.push { cls:=.type "list",data:=.seq ([]:List Value).toArray }
 have hT1:({ s with heap:=s.heap.push { cls:=.type "list",data:=.seq ([]:List Value).toArray } }:Shared).TypeIs (.ref d) "dict" := hm1.dictOf.typeIs
 have h1:Builtin.List.listSameRef (.ref s.heap.objs.size) (.ref d)=false:=by simp [Builtin.List.listSameRef,hSd]
 show wpAny _ A.in1 (Builtin.List.listExtendWith (.ref s.heap.objs.size) (.ref d) (.ref s.heap.objs.size)) _ _ _
 unfold Builtin.List.listExtendWith
 refine wpAny_bind (wpAny_typeOf hT1 ?_)
 rw [if_neg (by rw [h1];decide)]
 refine wpAny_bind (wpAny_pyIter_dict hd hm1 ?_)
 refine wpAny_bind (wpAny_holding ?_)
 unfold Builtin.List.listLengthHint
 have hm2:=hm1.push { cls:=.type "dict_keyiterator",data:=.fields #[.ref d,.int 0 0,.int kvs.length 0,.int ep 0] }
 have hT2:=hm2.dictOf.typeIs (s:={ s with heap:=(s.heap.push { cls:=.type "list",data:=.seq ([]:List Value).toArray }).push { cls:=.type "dict_keyiterator",data:=.fields #[.ref d,.int 0 0,.int kvs.length 0,.int ep 0] } })
 refine wpAny_bind (wpAny_specialOf hT2 y1Q ?_)
 (generalize hid:("dict.__len__" : String)=id0;(fail_if_success (clear hid id0));wp_delta;rw [show splitId id0=some ("dict", "__len__") from by subst hid;decide +kernel];subst hid)
 refine wpAny_bind (wpAny_isInstance (b:=true) hT2 (by rw [isSubtype_type];kernel_rfl) ?_)
 show wpAny _ A.in1 (typeOf (Value.ref d) >>= _) _ _ _
 refine wpAny_bind (wpAny_typeOf hT2 ?_)
 refine wpAny_pure ?_
 show wpAny _ A.in1 (rule "list.extend.makes-room" >>= fun _=>Builtin.List.listTouch (.ref s.heap.objs.size) >>= fun _=>
  again (.builtin "list.extend.loop" ⟨[.ref s.heap.objs.size,.ref (s.heap.push { cls:=.type "list",data:=.seq ([]:List Value).toArray }).objs.size,.ref s.heap.objs.size],[]⟩)) _ _ _
 refine wpAny_bind (wpAny_rule ?_)
 obtain⟨hA,eA⟩:∃h:Heap,h=s.heap.push { cls:=.type "list",data:=.seq ([]:List Value).toArray }:=⟨_,rfl⟩
 obtain⟨hB,eB⟩:∃h:Heap,h=hA.push { cls:=.type "dict_keyiterator",data:=.fields #[.ref d,.int 0 0,.int kvs.length 0,.int ep 0] }:=⟨_,rfl⟩
 have sA:hA.objs.size=s.heap.objs.size+1:=by rw [eA];simp [Heap.push]
 have hne:d≠hA.objs.size:=aC (aM hlt (by rw [sA];exact cN _))
 have W:=(Walks.dictKeys (A:=A.in1) (prog:=prog) (w:=w) (knd:=knd) hh hA.objs.size d hne kvs ep).toS
 have hIt:hB.IsKeyIter hA.objs.size d 0 kvs.length ep:=⟨_,by rw [eB];exact Heap.get?_push_size _ rfl,rfl,rfl⟩
 have hDt:hB.DictAt knd d kvs ep:=by rw [eB,eA];exact hm2
 have hS₁:hB.get? s.heap.objs.size=some { cls:=.type "list",data:=.seq ([]:List Value).toArray }:=by rw [eB,eA];exact Heap.get?_push_of_some _ (Heap.get?_push_size _ rfl)
 have hSf:s.heap.objs.size∉[hA.objs.size,d]:=fun hm=>by
  rcases ai.mp hm with z | z
  ·omega
  ·exact hSd (ax.mp z)
 rw [←eA,←eB]
 refine wpAny_bind ?_
 show wpAny _ A.in1 (updateSeq s.heap.objs.size (·.push .none) >>= fun _=>updateSeq s.heap.objs.size (·.pop)) _ _ _
 refine wpAny_bind (wpAny_updateSeq hS₁ rfl ?_)
 have hS₂:=Heap.get?_update_self (Obj.mapSeq (·.push Value.none)) hS₁ rfl
 refine wpAny_updateSeq hS₂ rfl ?_
 have hS₃:=Heap.get?_update_self (Obj.mapSeq (·.pop)) hS₂ rfl
 have oth:∀b o,b≠s.heap.objs.size->hB.get? b=some o->((hB.update s.heap.objs.size (Obj.mapSeq (·.push Value.none))).update s.heap.objs.size (Obj.mapSeq (·.pop))).get? b=some o:=
  fun b o hb e=>(Heap.get?_update_other _ _ (Ne.symm hb)).trans ((Heap.get?_update_other _ _ (Ne.symm hb)).trans e)
 refine wpAny_pure ⟨plainId_quiet F.plain_extend_loop _,codeAny_extend_loopS W hn _ hSf _ kvs.length 0 _ _ _ rfl (bX _)
  (W.frame 0 ({ s with heap:=hB }:Shared) _ s.toks ⟨hIt,hDt⟩ (ao _) fun b hb o e=>oth b o (fun h=>hSf (h ▸ hb)) e) hS₃ (ItemsOf.nil _) fun s' acc' c' hmv hS' hacc=>?_⟩
 show wpAny _ A (load s.heap.objs.size >>= _) _ _ s'
 refine wpAny_bind (wpAny_load hS' ?_)
 refine wpAny_pure (hQ s' acc' ⟨fun b o _ e=>?_,hmv.gens,hmv.drawn,hmv.os,hmv.toks⟩ hacc)
 have hb:(b:Nat)<s.heap.objs.size:=Heap.lt_size e
 refine hmv.heap b o (fun z=>?_) (oth b o (aC hb) (by rw [eB,eA];exact Heap.get?_push_of_some _ (Heap.get?_push_of_some _ e)))
 rcases ai.mp z with z | z
 ·exact aC hb z
 ·exact aC (aM hb (by rw [sA];exact cN _)) (ax.mp z)
end
end PySem
namespace L2
open PySem PySem.Spec PyProof.Rows
theorem y9D:∀{vs:List Value} {ns:List Int},vs.length=ns.length->(∀(j:Nat) (v:Value) (n:Int),vs[j]? = some v->ns[j]? = some n->∃t:Tok,v=Value.int n t)->IntsAre vs ns
 |[],[],_,_=>.nil
 |[],_::_,h,_=>by cases h
 |_::_,[],h,_=>by cases h
 |v::vs,n::ns,h,hs=>by
  obtain⟨t,rfl⟩:=hs 0 v n rfl rfl
  exact .cons n t (y9D (by simpa using h) fun j v n e1 e2=>hs (j+1) v n (by simpa using e1) (by simpa using e2))
section
variable{prog:Program}{w:World}{A:Around}{E:Value->Shared->Prop}{s:Shared}
theorem y2A{d:Addr}{kvs:List (Key×Value)}{ep:Nat}{ns:List Int}{Q:Value->Shared->Prop}(hh:A.handled=none)(hd:(d==sysModules)=false)(hm:s.heap.DictAt (z0Z prog w) d kvs ep)(hk:kvs.map (·.1)=ns.map Sum.inl)(h64:ns.length<64)
  (h:∀(h1 h':Heap) (tk:Nat) (out:List Value) (e:Nat) (ns':List Int),(∀b o',s.heap.get? b=some o'->h1.get? b=some o')->(∀b o',h1.get? b=some o'->h'.get? b=some o')->h'.get? h1.objs.size=some { cls:=.type "list",data:=.seq out.toArray e }->IntsAre out ns'->ns'.Perm ns->ns'.Pairwise (· ≤ ·)->Q (.ref h1.objs.size) { s with heap:=h',toks:=tk }):
  wpAny (model prog w) A (call (.builtin "sorted") [.ref d]) Q E s:=by
 have hl:kvs.length=ns.length:=by rw [←am (f:=(·.1)),hk,am]
 refine Calls.call_function_entry kind_sorted plain_sorted entry_sorted (args_sorted1 _) ?_
 unfold Builtin.«sorted»
 refine wpAny_bind (m:=checkCount "sorted" 1 1 _) (wpAny_pure ?_)
 refine wpAny_bind (z5o hh hd hm (by rw [sizeLine_eq];omega) fun s1 acc mv hit=>?_)
 have hI:IntsAre acc.toList ns:=by
  refine y9D (by rw [b9,hit.1,hl]) fun j v n e1 e2=>?_
  obtain⟨k,x,e3,e4⟩:=hit.2 j v (by rw [←e1];simp)
  have e5:(kvs.map (·.1))[j]? = some k:=by rw [aN,e3];rfl
  rw [hk,aN,e2]at e5
  cases e5
  rcases z0N (show y2J (Sum.inl n) v=true from e4)with⟨i,t,z1,z2⟩ | ⟨y,t,z1,z2⟩
  ·cases z1;exact⟨t,z2⟩
  ·cases z1
 have es:=Moved.eq_with mv
 refine wpAny_bind (wpAny_newList ?_)
 have hoL:(s1.heap.push (seqObj "list" acc.toList.toArray 0)).get? s1.heap.objs.size=some (seqObj "list" acc.toList.toArray 0):=Heap.get?_push_size _ rfl
 show wpAny _ _ _ _ _ { s1 with heap:=s1.heap.push (seqObj "list" acc.toList.toArray 0) }
 have h64':acc.toList.length<64:=by rw [b9,hit.1,hl];exact h64
 refine wpAny_bind (wpAny_holding (wpAny_call_entry slot_list_sort ⟨_,hoL,rfl⟩ entry_list_sort (list_sort_tree hoL hI h64' fun out ns' a1 a2 a3=>⟨_,rfl,?_⟩) (args_list_sort _)))
 obtain⟨e,he⟩:=sortedHeap_at (out:=out) hoL
 have fin:=h s1.heap _ s1.toks out.toList e ns' (fun b o' hb=>mv.heap b o' (fun z=>nomatch z) hb) (fun b o' hb=>?_) (by simpa [seqObj] using he) a1 a2 a3
 ·refine wpAny_pure ⟨_,rfl,?_⟩
  rw [es]
  exact fin
 ·have hlt:b<s1.heap.objs.size:=Heap.lt_size hb
  rw [sortedHeap_old (aC hlt) (by rw [size_push'];exact bI hlt)]
  exact Heap.get?_push_of_some _ hb
end
section
variable{X:Cx}
theorem y0w(hc:X.calm=true):z4n X (.builtin "sorted") (fun xs H Q=>∃(p:Addr) (kvs:List (Key×V)) (ns:List Int),xs=[.ref p]∧H p=some (.dK kvs)∧kvs.map (·.1)=ns.map Sum.inl∧ns.length<64∧∀l,H l=none->Q (.ref l) (upd H l (.lst ((z6m ns).map V.int)))):=by
 intro pins s σ H xs us Q I r h
 obtain⟨p,kvs,ns,rfl,hq,hk,h64,q⟩:=h
 obtain⟨u,rfl,rx⟩:=z7T r
 cases rx
 obtain⟨_,hs,vs,rel,dd⟩:=dk_of I.hok hq
 obtain⟨ep,da⟩:=dd.dictAt
 refine y2A (I.ok.hd hc) hs da (rel.keys.symm.trans hk) h64 fun h1 h' tk out e ns' k1 k2 ho hi hp hs'=>?_
 have es:=z5C hp hs'
 subst es
 have I1:Inv X pins σ H { s with heap:=h1 }:=I.kept (t':=s.toks) k1
 refine⟨.ref h1.objs.size,_,Inv.laid (s:={ s with heap:=h1 }) (t':=tk) I1 k2 (ao _) (show ObjOk X.prog X.w _ h' _ (.lst ((z6m ns).map V.int)) from⟨?_,out,e,x1b hi,ho⟩),rfl,q _ (I1.hok.fresh (ao _))⟩
 rw [am,hp.length_eq,sizeLine_eq]
 omega
def z5b:List Key->Option (List Int)
 |[]=>some []
 |.inl n::r=>(z5b r).map fun ns=>n::ns
 |.inr _::_=>none
theorem z8k:∀{ks:List Key} {ns:List Int},z5b ks=some ns->ks=ns.map Sum.inl
 |[],_,h=>by cases h;rfl
 |.inl n::r,_,h=>by
  unfold z5b at h
  cases e:z5b r with
  |none=>rw [e]at h;cases h
  |some ns=>
   rw [e]at h
   cases h
   rw [aG,←z8k e]
 |.inr _::_,_,h=>by cases h
def y0V:List D->Option (List D)
 |[.dct ks _]=>(z5b ks).bind fun ns=>if ns.length<64 then some ((z6m ns).map .int)else none
 |_=>none
theorem x0I{K:aa}:OpL K (fun xs H Q=>∃(p:Addr) (kvs:List (Key×V)) (ns:List Int),xs=[.ref p]∧H p=some (.dK kvs)∧kvs.map (·.1)=ns.map Sum.inl∧ns.length<64∧∀l,H l=none->Q (.ref l) (upd H l (.lst ((z6m ns).map V.int)))) y0V:=by
 intro H B ds es vs Q hB hr q k
 unfold y0V at q
 split at q
 ·rename_i ks ds'
  cases e:z5b ks with
  |none=>rw [e]at q;cases q
  |some ns=>
   rw [e,aq]at q
   split at q
   ·rename_i h64
    cases q
    obtain⟨v,rfl,r⟩:=z3w hr
    unfold Rep at r
    obtain⟨a,kvs,rfl,_,h,hk,_⟩:=r
    exact⟨a,kvs,ns,rfl,h,by rw [hk,z8k e],h64,fun l hl=>k l _ _ (z0n hl) hl z0m (z1K _)⟩
   ·cases q
 ·cases q
variable{e:Expr}{f:DE}{p pos:Pos}
theorem y5e(hc:X.calm=true)(hg:Gl X "sorted")(hm:X.mg "sorted" = none)(h:PD X e f)(he:starEach [e] X.env=[(false,eval e X.env)]:=by rfl):PF X (.Call (.Name "sorted" p) [e] [] pos) (z2S y0V [f]):=
 (z6z (y0w hc) hg hm boot_sorted (z0a h z0c he) (by decide) (by decide) he rfl).imp (callL x0I)
end
end L2
namespace L2
open PySem PySem.Spec PyProof.Rows
def mkD1:D->D->Option D
 |.int a,.int b=>some (.dct [.inl a] [.int b])
 |_,_=>none
def y9g(fk fv:DE):DE:=d2 mkD1 fk fv
section
variable{X:Cx}{ke ve:Expr}{pos:Pos}{f g:DE}
theorem x0B(hk:PD X ke f)(hv:PD X ve g):PN X (.Dict [some ke] [ve] pos) (y9g f g):=(pe_disp (x1k hk hv pps_nil) rfl rfl (by simp) (by simp)).imp fun σ H Q ⟨δ,d,S,q,kk⟩=>by
 obtain⟨dx,dy,e1,e2,e3⟩:=y9S q
 unfold mkD1 at e3
 split at e3
 ·rename_i a b
  cases e3
  intro p hp
  have s0:Same H (upd H p (.dK [])):=z0n hp
  refine⟨noB,δ,_,.no,S.mono s0,e1,fun v H2 s2 r2=>⟨noB,δ,_,.no,(S.mono s0).mono s2,e2,fun u H3 s3 r3=>?_⟩⟩
  unfold Rep at r2 r3
  subst r2 r3
  have hp3:H3 p=some (.dK []):=s3 _ _ (s2 _ _ z0m)
  refine⟨hp3,[(.inl a,.int b)],rfl,by simp,?_⟩
  refine kk (.ref p) _ [p] (fun c o ec=>?_) ?_ (av.mpr ⟨fun z=>(nomatch z),bi⟩) fun c hc=>?_
  ·have hcp:c≠p:=fun z=>by rw [z,hp]at ec;cases ec
   rw [z0q hcp]
   exact s3 _ _ (s2 _ _ (s0 _ _ ec))
  ·unfold Tree
   refine⟨p,[(.inl a,.int b)],[],rfl,z0m,rfl,?_,rfl⟩
   unfold Trees
   exact⟨.int b,[],[],[],rfl,⟨rfl,rfl⟩,⟨rfl,rfl⟩,rfl⟩
  ·rw [ax.mp hc];exact hp
 ·cases e3
end
theorem y7u{lo hi:Int}:Builtin.Range.rangeSize lo hi (-1)=(((lo - hi).toNat:Nat):Int):=by
 unfold Builtin.Range.rangeSize
 rw [if_neg (by decide)]
 by_cases h:hi<lo
 ·rw [if_pos h]
  have:(lo - hi - 1) / 1=lo - hi - 1:=Int.ediv_one _
  simp only [Int.neg_neg]
  omega
 ·rw [if_neg h]
  omega
theorem y6T{a b:Int}(ha:-(2 ^ 61)≤a)(ha':a<2 ^ 61)(hb:-(2 ^ 61)≤b)(hb':b<2 ^ 61):Builtin.Range.small a b (-1)=true:=by
 unfold Builtin.Range.small
 rw [y7u]
 simp only [Builtin.Range.rangeFitsLong,aH,cR,decide_eq_true_eq,beq_iff_eq]
 rw [if_neg (by decide),aH,decide_eq_true_eq,decide_eq_true_eq]
 omega
section
variable{X:Cx}{tg:Expr}
theorem y7R{pins:List (Addr×Obj)}{σ:St}{H:Hp}{s:Shared}{R:It->Hp->Prop}{E:Value->Shared->Prop}{lo hi:Int}{t u v:Tok}{tk:Nat}(I:Inv X pins σ H s)(h1:-(2 ^ 61)≤lo)(h2:lo<2 ^ 61)(h3:-(2 ^ 61)≤hi)(h4:hi<2 ^ 61)
  (q:R (Itr3 lo (-1) (lo - hi).toNat) H):wpAny (model X.prog X.w) X.A (pyIter (.ref s.heap.objs.size)) (PIE X pins σ tg R) E { s with heap:=s.heap.push { cls:=.type "range",data:=.fields #[.int lo t,.int hi u,.int (-1) v] },toks:=tk }:=by
 refine wpAny_pyIter_range (IsRange.new ..) (y6T h1 h2 h3 h4) ?_
 have I1:Inv X pins σ H { s with heap:=s.heap.push { cls:=.type "range",data:=.fields #[.int lo t,.int hi u,.int (-1) v] },toks:=tk }:=I.kept fun b o e=>Heap.get?_push_of_some _ e
 refine⟨(s.heap.push { cls:=.type "range",data:=.fields #[.int lo t,.int hi u,.int (-1) v] }).objs.size,[(s.heap.push { cls:=.type "range",data:=.fields #[.int lo t,.int hi u,.int (-1) v] }).objs.size],_,_,H,rfl,
  I1.kept (t':=tk) fun b o e=>Heap.get?_push_of_some _ e,y1T _ lo (-1) (lo - hi).toNat,?_,fun b hb=>?_,q⟩
 ·have e1:lo+((0:Nat):Int)*(-1)=lo:=by simp
  have e2:(((lo - hi).toNat:Nat):Int) - ((0:Nat):Int)=Builtin.Range.rangeSize lo hi (-1):=by rw [y7u];simp
  show IsRangeIter _ _ (lo+((0:Nat):Int)*(-1)) ((((lo - hi).toNat:Nat):Int) - ((0:Nat):Int)) (-1)
  rw [e1,e2]
  exact Heap.get?_push_size _ rfl
 ·have e:b=(s.heap.push { cls:=.type "range",data:=.fields #[.int lo t,.int hi u,.int (-1) v] }).objs.size:=by simpa using hb
  subst e
  exact I1.fpOk (ao _) (I1.hok.fresh (ao _))
def iRngN(ta:TA):TI:=fun σ H R=>ta σ H fun vs H1=>∃i j:Int,vs=[.int i,.int j,.int (-1)]∧(-(2 ^ 61)≤i∧i<2 ^ 61∧-(2 ^ 61)≤j∧j<2 ^ 61)∧R (Itr3 i (-1) (i - j).toNat) H1
theorem y7o{a b c:Expr}{ta:TA}{p pos:Pos}(hg:Gl X "range")(hm:X.mg "range" = none)(ha:PA X [a,b,c] ta)(hs:starEach [a,b,c] X.env=(false,eval a X.env)::starEach [b,c] X.env:=by rfl)(hpl:(backTo pos (starEach [b,c] X.env)).any (·.1)=false:=by rfl):
  PI X tg (.Call (.Name "range" p) [a,b,c] [] pos) (iRngN ta):=by
 intro pins s σ H R I h
 refine Call_ (z4r I hg hm boot_range (PyProof.Rows.callWith_type1 (thn (ha pos pins s σ H _ I h) fun us s1 ⟨vs,H1,I1,r1,q1⟩=>?_) hs hpl))
 obtain⟨i,j,e,hb,q⟩:=q1
 subst e
 obtain⟨u,v,w,rfl,⟨t1,rfl⟩,⟨t2,rfl⟩,⟨t3,rfl⟩⟩:=r1.three
 exact call_range_3 (by omega) (y7R I1 hb.1 hb.2.1 hb.2.2.1 hb.2.2.2 q) (.inl (PyProof.noPylong_small (by omega)))
def rngN:Option D->Option D->Option D->Option (List D)
 |some (.int i),some (.int j),some (.int c)=>if c = -1∧-(2 ^ 61)≤i∧i<2 ^ 61∧-(2 ^ 61)≤j∧j<2 ^ 61 then some (y6B i (-1) (i - j).toNat)else none
 |_,_,_=>none
def x0L(f g h:DE):DS->Option (List D):=fun δ=>rngN (f δ) (g δ) (h δ)
theorem pi_rngN{a b c:Expr}{f g h:DE}{p pos:Pos}(hg:Gl X "range")(hm:X.mg "range" = none)(ha:PD X a f)(hb:PD X b g)(hc:PD X c h)(hs:starEach [a,b,c] X.env=(false,eval a X.env)::starEach [b,c] X.env:=by rfl)(hs2:starEach [b,c] X.env=(false,eval b X.env)::starEach [c] X.env:=by rfl)(hs3:starEach [c] X.env=[(false,eval c X.env)]:=by rfl)(hpl:(backTo pos (starEach [b,c] X.env)).any (·.1)=false:=by rfl):
  PID X tg (.Call (.Name "range" p) [a,b,c] [] pos) (x0L f g h):=
 (y7o hg hm (z0a ha (z0a hb (z0a hc z0c hs3) hs2) hs) hs hpl).imp fun σ H R ⟨B,δ,ds,hB,S,q,k⟩=>by
  unfold x0L rngN at q
  split at q
  ·rename_i i j c e1 e2 e3
   split at q
   ·rename_i hj
    obtain⟨rfl,hj⟩:=hj
    cases q
    have ea:z0o [f,g,h] δ=some [.int i,.int j,.int (-1)]:=by unfold z0o z0o z0o;rw [e1,e2,e3];rfl
    refine⟨B,δ,[.int i,.int j,.int (-1)],hB,S,ea,fun vs H1 s1 r1=>?_⟩
    unfold Reps at r1
    obtain⟨x,r,rfl,rx,rr⟩:=r1
    unfold Reps at rr
    obtain⟨y,r',rfl,ry,rr⟩:=rr
    unfold Reps at rr
    obtain⟨z,r'',rfl,rz,rr⟩:=rr
    unfold Reps at rr
    subst rr
    exact⟨i,j,by rw [show x=V.int i from rx,show y=V.int j from ry,show z=V.int (-1) from rz],hj,k _ H1 s1 fun C _=>x0W⟩
   ·cases q
  ·cases q
end
section
variable{X:Cx}{a b:Expr}{pos:Pos}{f g:DE}
end
end L2
namespace L2
open PySem PySem.Spec PyProof.Rows
def twoD:D->Option (D×D)
 |.tup [a,b]=>some (a,b)
 |_=>none
theorem y5P{d:D}{z:D×D}(h:twoD d=some z):d = .tup [z.1,z.2]:=by
 unfold twoD at h
 split at h
 ·cases h;rfl
 ·cases h
def z4K(i j:Nat)(b:SS->Option Out):List D->SS->Option Out
 |[],δ=>some (.nx δ)
 |d::r,δ=>(twoD d).bind fun z=>(b ((δ.set i (some (.sh z.1))).set j (some (.sh z.2)))).bind fun o=>match o with
  |.nx δ'=>z4K i j b r δ'
  |.ct δ'=>z4K i j b r δ'
  |.bk δ'=>some (.nx δ')
  |.rt d=>some (.rt d)
  |.rb d δ'=>some (.rb d δ')
  |.ex c δ'=>some (.ex c δ')
def y6s(i j:Nat)(f:DS->Option (List D))(g:SS->Option Out):SS->Option Out:=fun δ=>(f (shV δ)).bind fun ds=>z4K i j g ds δ
section
variable{X:Cx}{H0:Hp}{B0:Addr->Prop}{fr:Bool}{RX:XR}{pos:Pos}
def gPair(K:aa)(i j:Nat):TG:=gTup K 2 (y6M (z2r i) (y6M (z2r j) gNil))
theorem x3k{i j:Nat}{tg:Expr}{iter:Expr}{body:List Stmt}{f:DS->Option (List D)}{g:SS->Option Out}(hp:PassesOwn (model X.prog X.w) X.A X.env X.xe)(hc:X.calm=true)(hi:PID X tg iter f)(hg:PG X tg (gPair X.K i j))(hb:PSs X body (tS X.K H0 B0 fr RX g))
  (hs:∀x,foldedSetIterable iter X.env x=pure x:=by intro _;rfl):PS X (.For tg iter body [] pos) (tS X.K H0 B0 fr RX (y6s i j f g)):=PS.imp (y7k hp hc hi hg hb hs) fun D σ H ⟨δ,R,o,rs,q,k⟩=>by
 unfold y6s at q
 cases e:f (shV δ)with
 |none=>rw [e]at q;cases q
 |some ds=>
 rw [e]at q
 have q:z4K i j g ds δ=some o:=q
 refine⟨_,shV δ,ds,rs.inAll,rs.shr,e,fun J H1 s1 itw=>?_⟩
 have rs1:=rs.mono s1
 have it:=itw (fun a=>H1 a=none) fun a z=>z
 refine⟨fun n m σ' H'=>m=ds.length - n∧n≤ds.length∧∃δ' R',RS X.K H0 B0 H' σ' δ' R'∧Stp R H1 R' H'∧z4K i j g (ds.drop n) δ'=some o,⟨ds.length,by simp,bX _,δ,R,rs1,.refl R H1,q⟩,?_⟩
 rintro n m σ' H' ⟨rfl,hn,δ',R',rs',s',q'⟩
 have kp:Keep X.K (fun a=>(B0 a∨∃r,a∈R r)∨H1 a=none) H1 H':=s'.keepB (fun r a z=>.inl (.inr ⟨r,z⟩)) rs1.held
 by_cases hlt:n<ds.length
 ·have hx:ds.drop n=ds[n]::ds.drop (n+1):=bx hlt
  rw [hx]at q'
  unfold z4K at q'
  cases et:twoD ds[n]with
  |none=>rw [et]at q';cases q'
  |some z=>
  rw [et,aq]at q'
  cases eb:g ((δ'.set i (some (.sh z.1))).set j (some (.sh z.2)))with
  |none=>rw [eb]at q';cases q'
  |some ob=>
   rw [eb]at q'
   refine .inr ⟨it.go n H' kp hlt,fun σ2 H2=>n+1≤ds.length∧∃δ2 R2,RS X.K H0 B0 H2 σ2 δ2 R2∧Stp R H1 R2 H2∧z4K i j g (ds.drop (n+1)) δ2=some o,fun σ2 H2 z=>⟨ds.length - (n+1),by omega,rfl,z⟩,fun xv H2 hy=>?_⟩
   obtain⟨s2,d,hd,rd⟩:=it.yld n H' xv H2 kp hy
   have hdi:d=ds[n]:=by
    have:=hd hlt
    rw [ac hlt]at this
    exact(Option.some.inj this).symm
   subst hdi
   have rd':Rep X.K H2 (fun a=>B0 a∨∃r,a∈R' r) ds[n] xv:=rd.anti fun a z=>by
    rcases z with z | ⟨r,z⟩
    ·exact .inl (.inl z)
    ·rcases s'.from' r a z with z | z
     ·exact .inl (.inr z)
     ·exact .inr z
   rw [y5P et]at rd'
   unfold Rep at rd'
   obtain⟨p,vs,rfl,hsq,rvs⟩:=rd'
   unfold Reps at rvs
   obtain⟨va,r1,rfl,ra,rvs⟩:=rvs
   unfold Reps at rvs
   obtain⟨vb,r2,rfl,rb,rvs⟩:=rvs
   unfold Reps at rvs
   subst rvs
   refine⟨p,[va,vb],rfl,hsq,rfl,va,[vb],rfl,vb,[],rfl,rfl,?_⟩
   have rs2:=((rs'.mono s2).setSh (i:=i) ra).setSh (i:=j) rb
   have st2:Stp R H1 R' H2:=s'.trans (.same s2)
   refine⟨_,R',ob,rs2,eb,?_⟩
   cases ob with
   |nx δ2=>
    have q2:z4K i j g (ds.drop (n+1)) δ2=some o:=q'
    exact fun σ3 H3 R3 rs3 s3=>⟨hlt,δ2,R3,rs3,st2.trans s3,q2⟩
   |ct δ2=>
    have q2:z4K i j g (ds.drop (n+1)) δ2=some o:=q'
    exact fun σ3 H3 R3 rs3 s3=>⟨hlt,δ2,R3,rs3,st2.trans s3,q2⟩
   |bk δ2=>
    cases q'
    exact fun σ3 H3 R3 rs3 s3=>k σ3 H3 R3 rs3 ((Stp.same s1).trans (st2.trans s3))
   |rt d=>
    cases q'
    exact k.back ((Stp.same s1).trans st2)
   |rb d δ2=>
    cases q'
    exact k.back ((Stp.same s1).trans st2)
   |ex c δ2=>
    cases q'
    exact k.back ((Stp.same s1).trans st2)
 ·have en:n=ds.length:=by omega
  subst en
  rw [ci]at q'
  cases q'
  exact .inl ⟨it.stop _ H' kp (ao _),k σ' H' R' rs' ((Stp.same s1).trans s')⟩
theorem y5L{i j:Nat}{x y:Str}{px py tp:Pos}{x1}(hc:X.calm=true)(h1:PG X (.Name x px) (z2r i))(h2:PG X (.Name y py) (z2r j))
  (hs:(assignEach [.Name x px,.Name y py] X.env).map (·.2)=assign (.Name x px) X.env::(assignEach [.Name y py] X.env).map (·.2):=by rfl) (hs2:(assignEach [.Name y py] X.env).map (·.2)=assign (.Name y py) X.env::(assignEach [] X.env).map (·.2):=by rfl)
  (hn:(assignEach [.Name x px,.Name y py] X.env).length=2:=by rfl) (hst:(assignEach [.Name x px,.Name y py] X.env).findIdx? (·.1)=none:=by rfl):PG X (.Tuple [.Name x px,.Name y py] x1 tp) (gPair X.K i j):=
 x3y hc (z6l h1 (z6l h2 y5X hs2) hs) hn hst
end
end L2
namespace L2
open PySem PySem.Spec PyProof.Rows
def bst(ns:List Int):Nat->Nat
 |0=>0
 |k+1=>if decide (ns.getD (k+1) 0<ns.getD (bst ns k) 0)=true then k+1 else bst ns k
def mnI(ns:List Int):Int:=ns.getD (bst ns (ns.length - 1)) 0
theorem y4s{bt:Nat->Nat->Bool}{ns:List Int}(h:∀i j,bt i j=decide (ns.getD i 0<ns.getD j 0)):∀k,argBest bt k=bst ns k
 |0=>rfl
 |k+1=>by
  unfold argBest bst
  rw [y4s h k,h]
section
variable{X:Cx}
theorem y9j(hc:X.calm=true):z4n X (.builtin "min") (fun xs H Q=>∃(p:Addr) (ns:List Int),xs=[.ref p]∧SqL X.K H p (ns.map V.int)∧ns≠[]∧Q (.int (mnI ns)) H):=by
 intro pins s σ H xs us Q I r h
 obtain⟨p,ns,rfl,hq,hne,q⟩:=h
 obtain⟨u,rfl,ru⟩:=z7T r
 cases ru
 obtain⟨its,rv,pl,hz⟩:=I.list hq
 have hi:=z4k rv
 obtain⟨xs,hx⟩:=hi.allInts.items
 have hl':s.heap.IsList p (intItems xs):=hx ▸ pl.isList
 have e1:ns=xs.toList.map (·.1):=by
  rw [←nums_intItems,←hx]
  exact(show numsOf its.toArray.toList=ns from hi.numsOf).symm
 have hsz:xs.size=ns.length:=by rw [e1];simp
 have hp:0<ns.length:=bS.mpr hne
 refine min_intList (I.ok.hd hc) hl' (by omega) fun v h' tk hv hk=>?_
 have eb:argBest (fun i j=>decide (numAt xs i<numAt xs j)) (xs.size - 1)=bst ns (ns.length - 1):=by
  rw [hsz]
  refine y4s (fun i j=>?_) _
  have en:∀k,numAt xs k=ns.getD k 0:=fun k=>by
   rw [e1]
   unfold numAt
   simp [aJ]
  rw [en,en]
 rw [eb]at hv
 obtain⟨t,rfl⟩:=intItems_at hv
 have en:numAt xs (bst ns (ns.length - 1))=mnI ns:=by
  unfold mnI
  rw [e1]
  unfold numAt
  simp [aJ]
 exact⟨.int _,H,I.kept hk,⟨t,by rw [en]⟩,q⟩
def y8C:List D->Option D
 |[.lst ds]=>(z1A ds).bind fun ns=>if ns.isEmpty=true then none else some (.int (mnI ns))
 |_=>none
theorem oa_minL{K:aa}:OpA K (fun xs H Q=>∃(p:Addr) (ns:List Int),xs=[.ref p]∧SqL K H p (ns.map V.int)∧ns≠[]∧Q (.int (mnI ns)) H) y8C:=by
 intro H B ds d vs Q hB hr q k
 unfold y8C at q
 split at q
 ·rename_i es
  cases e:z1A es with
  |none=>rw [e]at q;cases q
  |some bs=>
   rw [e,aq]at q
   split at q
   ·cases q
   ·rename_i hn
    cases q
    obtain⟨v,rfl,r⟩:=z3w hr
    unfold Rep at r
    obtain⟨a,xs,rfl,_,h,rs⟩:=r
    rw [z3P e rs]at h
    exact⟨a,bs,rfl,SqL.of h,fun z=>hn (by rw [z];rfl),k _ H (.refl H) rfl⟩
 ·cases q
variable{e:Expr}{f:DE}{p pos:Pos}
theorem pd_minL(hc:X.calm=true)(hg:Gl X "min")(hm:X.mg "min" = none)(h:PD X e f)(he:starEach [e] X.env=[(false,eval e X.env)]:=by rfl):PD X (.Call (.Name "min" p) [e] [] pos) (z0i y8C [f]):=
 z2s (y9j hc) oa_minL hg hm boot_min (z0a h z0c he) (by decide) (by decide) he rfl
end
end L2
namespace L2
open PySem PySem.Spec PyProof.Rows
theorem Reps.pick{K:aa}{H:Hp}{B:Addr->Prop}{ds:List D}{xs:List V}(h:Reps K H B ds xs):∀l:List Nat,Reps K H B (l.filterMap (ds[·]?)) (l.filterMap (xs[·]?))
 |[]=>.nil
 |j::l=>by
  rw [bT,bT]
  cases e:ds[j]? with
  |none=>
   have hn:xs[j]? = none:=by
    rw [eL]at e ⊢
    rw [←h.length]
    exact e
   rw [hn]
   exact h.pick l
  |some d=>
   obtain⟨x,e2,r⟩:=h.get e
   rw [e2]
   exact .cons r (h.pick l)
section
variable{X:Cx}{e lo st:Expr}{te:TE}{tl tk:TO}{pos p2:Pos}
variable{f g h:DE}
end
end L2
namespace L2
open PySem PySem.Spec PyProof.Rows
def bigL:Nat:=2 ^ 250
def CMulB(i j:Int):Prop:=i.natAbs<bigL∧j.natAbs<bigL
instance{i j:Int}:Decidable (CMulB i j):=by unfold CMulB;infer_instance
def x0c:D->D->Option D:=iop fun i j=>if CMulB i j then some (.int (i*j))else none
theorem CMulB.ok{i j:Int}(h:CMulB i j):IntMulOk i j:=by
 have h1:Builtin.Int.intBits i≤250:=intBits_le h.1
 have h2:Builtin.Int.intBits j≤250:=intBits_le h.2
 have h3:Builtin.Int.intTooBig ((Builtin.Int.intBits i:Int)+(Builtin.Int.intBits j:Int))=false:=by
  unfold Builtin.Int.intTooBig
  apply decide_eq_false
  have hb:(2000:Int)≤bitsLine:=by decide
  omega
 unfold IntMulOk
 rw [h3]
 simp
section
variable{X:Cx}{a b:Expr}{pos:Pos}{f g:DE}
theorem op_mulB:OpR X (binaryOp .Mult) (rI CMulB fun i j=>.int (i*j)):=opI fun _ _ _ _ _ _ _ hc q=>mul_int q hc.ok
theorem z4I(ha:PD X a f)(hb:PD X b g):PD X (.BinOp a .Mult b pos) (d2 x0c f g):=y1I op_mulB y0H ha hb
end
end L2
namespace L2
open PySem PySem.Spec PyProof.Rows
section
variable{X:Cx}{tg iter a b:Expr}{p pos pos':Pos}
structure ItF(J:It)(lo:Int)(n:Nat):Prop where
 go:∀i H',i<n->J.go i H'
 stop:∀i H',n≤i->J.stop i H'
 yld:∀i H' x H2,J.yld i H' x H2->Same H' H2∧x = .int (lo+(i:Int))
theorem itf_rng{lo:Int}{n:Nat}:ItF (Itr lo n) lo n:=⟨fun i H' hi=>hi,fun i H' hi=>hi,fun i H' x H2 y=>by
 obtain⟨e,y⟩:=y
 subst e y
 exact⟨.refl _,rfl⟩⟩
def tIF(K:aa)(f:DS->Option (Int×Nat)):TI:=fun σ H R=>∃B δ z,InB B H∧RepS K H B σ δ∧f δ=some z∧∀J H',Same H H'->ItF J z.1 z.2->R J H'
abbrev PIF(X:Cx)(tg iter:Expr)(f:DS->Option (Int×Nat)):Prop:=PI X tg iter (tIF X.K f)
def dIv1(f:DE):DS->Option (Int×Nat):=fun δ=>match f δ with
 |some (.int j)=>if -(2 ^ 62)≤j∧j<2 ^ 62 then some (0,j.toNat)else none
 |_=>none
theorem y3L{f:DE}(hg:Gl X "range")(hm:X.mg "range" = none)(ha:PD X a f)(hs:starEach [a] X.env=[(false,eval a X.env)]:=by rfl):PIF X tg (.Call (.Name "range" p) [a] [] pos) (dIv1 f):=
 (y0C hg hm (z0a ha z0c hs) hs).imp fun σ H R ⟨B,δ,ds,hB,S,q,k⟩=>by
  unfold dIv1 at q
  split at q
  ·rename_i j e
   split at q
   ·rename_i hj
    cases q
    have ea:z0o [f] δ=some [.int j]:=by unfold z0o;rw [e];rfl
    refine⟨B,δ,[.int j],hB,S,ea,fun vs H1 s1 r1=>?_⟩
    unfold Reps at r1
    obtain⟨x,r,rfl,rx,rr⟩:=r1
    unfold Reps at rr
    subst rr
    exact⟨j,by rw [show x=V.int j from rx],hj.1,hj.2,k _ H1 s1 itf_rng⟩
   ·cases q
  ·cases q
def forI(i:Nat)(f:DS->Option (Int×Nat))(b:SS->Option Out):SS->Option Out:=fun δ=>(f (z0u δ)).bind fun z=>z6j i b (z4p z.1 z.2) δ
variable{H0:Hp}{B0:Addr->Prop}{fr:Bool}{RX:XR}
theorem x3I{i:Nat}{x:Str}{px:Pos}{body:List Stmt}{f:DS->Option (Int×Nat)}{g:SS->Option Out}(hp:PassesOwn (model X.prog X.w) X.A X.env X.xe)(hc:X.calm=true)(hi:PIF X (.Name x px) iter f)(hg:PG X (.Name x px) (z2r i))(hb:PSs X body (tS X.K H0 B0 fr RX g))
  (hs:∀x,foldedSetIterable iter X.env x=pure x:=by intro _;rfl):PS X (.For (.Name x px) iter body [] pos) (tS X.K H0 B0 fr RX (forI i f g)):=PS.imp (y7k hp hc hi hg hb hs) fun D σ H ⟨δ,R,o,rs,q,k⟩=>by
 unfold forI at q
 cases e:f (z0u δ)with
 |none=>rw [e]at q;cases q
 |some z=>
 rw [e]at q
 obtain⟨ds,hds⟩:∃ds,ds=z4p z.1 z.2:=⟨_,rfl⟩
 have hlen:ds.length=z.2:=by rw [hds,z3h]
 have q:z6j i g ds δ=some o:=by rw [hds];exact q
 refine⟨noB,z0u δ,z,.no,rs.all,e,fun J H1 s1 it=>?_⟩
 have rs1:=rs.mono s1
 refine⟨fun n m σ' H'=>m=ds.length - n∧n≤ds.length∧∃δ' R',RS X.K H0 B0 H' σ' δ' R'∧Stp R H1 R' H'∧z6j i g (ds.drop n) δ'=some o,⟨ds.length,by simp,bX _,δ,R,rs1,.refl R H1,q⟩,?_⟩
 rintro n m σ' H' ⟨rfl,hn,δ',R',rs',s',q'⟩
 by_cases hlt:n<ds.length
 ·have hx:ds.drop n=ds[n]::ds.drop (n+1):=bx hlt
  rw [hx]at q'
  unfold z6j at q'
  cases eb:g (δ'.set i (some (.sh ds[n])))with
  |none=>rw [eb]at q';cases q'
  |some ob=>
   rw [eb]at q'
   refine .inr ⟨it.go n H' (by omega),fun σ2 H2=>n+1≤ds.length∧∃δ2 R2,RS X.K H0 B0 H2 σ2 δ2 R2∧Stp R H1 R2 H2∧z6j i g (ds.drop (n+1)) δ2=some o,fun σ2 H2 z=>⟨ds.length - (n+1),by omega,rfl,z⟩,fun xv H2 hy=>?_⟩
   obtain⟨s2,hd⟩:=it.yld n H' xv H2 hy
   have hdi:ds[n] = .int (z.1+(n:Int)):=by
    have h1:ds[n]? = some (.int (z.1+(n:Int))):=by rw [hds];exact y3u (by omega)
    rw [ac hlt]at h1
    exact Option.some.inj h1
   have rd':Rep X.K H2 (fun a=>B0 a∨∃r,a∈R' r) ds[n] xv:=by
    rw [hdi]
    exact hd
   have rs2:=(rs'.mono s2).setSh (i:=i) rd'
   have st2:Stp R H1 R' H2:=s'.trans (.same s2)
   refine⟨_,R',ob,rs2,eb,?_⟩
   cases ob with
   |nx δ2=>
    have q2:z6j i g (ds.drop (n+1)) δ2=some o:=q'
    exact fun σ3 H3 R3 rs3 s3=>⟨hlt,δ2,R3,rs3,st2.trans s3,q2⟩
   |ct δ2=>
    have q2:z6j i g (ds.drop (n+1)) δ2=some o:=q'
    exact fun σ3 H3 R3 rs3 s3=>⟨hlt,δ2,R3,rs3,st2.trans s3,q2⟩
   |bk δ2=>
    cases q'
    exact fun σ3 H3 R3 rs3 s3=>k σ3 H3 R3 rs3 ((Stp.same s1).trans (st2.trans s3))
   |rt d=>
    cases q'
    exact k.back ((Stp.same s1).trans st2)
   |rb d δ2=>
    cases q'
    exact k.back ((Stp.same s1).trans st2)
   |ex c δ2=>
    cases q'
    exact k.back ((Stp.same s1).trans st2)
 ·have en:n=ds.length:=by omega
  subst en
  rw [ci]at q'
  cases q'
  exact .inl ⟨it.stop _ H' (by omega),k σ' H' R' rs' ((Stp.same s1).trans s')⟩
def ret3(i j l:Nat):SS->Option Out:=fun δ=>match y1x δ i,y1x δ j,y1x δ l with
 |some d,some e,some f=>some (.rt (.lst [d,e,f]))
 |_,_,_=>none
variable{c:Expr}
theorem s_ret3{i j l:Nat}(hij:i≠j)(hil:i≠l)(hjl:j≠l)(ha:PE X a (y1u i))(hb:PE X b (y1u j))(hc:PE X c (y1u l))(hs:starEach [a,b,c] X.env=(false,eval a X.env)::starEach [b,c] X.env:=by rfl)(hs2:starEach [b,c] X.env=(false,eval b X.env)::starEach [c] X.env:=by rfl)(hs3:starEach [c] X.env=(false,eval c X.env)::starEach [] X.env:=by rfl):
  PS X (.Return (some (.List [a,b,c] pos')) pos) (tS X.K H0 B0 true RX (ret3 i j l)):=PS.imp (y0I (y8O (z1V ha (z1V hb (z1V hc pa_nil hs3) hs2) hs))) fun D σ H ⟨δ,R,o,rs,q,k⟩=>by
 unfold ret3 at q
 split at q
 ·rename_i d e f h1 h2 h3
  cases q
  obtain⟨v,A,e1,t1,n1,m1⟩:=z9N rs h1
  obtain⟨w,C,e2,t2,n2,m2⟩:=z9N rs h2
  obtain⟨u,G,e3,t3,n3,m3⟩:=z9N rs h3
  refine⟨v,e1,w,e2,u,e3,by show 3≤sizeLine;rw [sizeLine_eq];omega,fun p hp=>?_⟩
  have sp:=z0n (o:=.lst [v,w,u]) hp
  have hold:∀x,x∈A++(C++G)->H x≠none:=fun x hx z=>by
   rcases ay.mp hx with y | y
   ·obtain⟨o,q,_⟩:=t1.held _ x y
    rw [z]at q;cases q
   rcases ay.mp y with y | y
   ·obtain⟨o,q,_⟩:=t2.held _ x y
    rw [z]at q;cases q
   ·obtain⟨o,q,_⟩:=t3.held _ x y
    rw [z]at q;cases q
  have nd:(A++(C++G)).Nodup:=by
   refine bf.mpr ⟨n1,bf.mpr ⟨n2,n3,fun x hx y hy z=>?_⟩,fun x hx y hy z=>?_⟩
   ·subst z
    exact hjl (rs.disj j l x (m2 x hx) (m3 x hy))
   ·subst z
    rcases ay.mp hy with y | y
    ·exact hij (rs.disj i j x (m1 x hx) (m2 x y))
    ·exact hil (rs.disj i l x (m1 x hx) (m3 x y))
  refine k (.ref p) _ ⟨rs.keep.trans sp,fun _=>⟨p::(A++(C++G)),?_,av.mpr ⟨fun z=>hold p z hp,nd⟩,fun x hx=>?_⟩,fun z=>by cases z⟩ fun x z=>sp.free z
  ·unfold Tree
   refine⟨p,[v,w,u],A++(C++G),rfl,z0m,?_,rfl⟩
   unfold Trees
   refine⟨v,[w,u],A,C++G,rfl,t1.mono sp,?_,rfl⟩
   unfold Trees
   refine⟨w,[u],C,G,rfl,t2.mono sp,?_,rfl⟩
   unfold Trees
   exact⟨u,[],G,[],rfl,t3.mono sp,⟨rfl,rfl⟩,by simp⟩
  ·rcases ai.mp hx with z | z
   ·rw [z];exact rs.keep.free hp
   ·rcases ay.mp z with z | z
    ·exact rs.new i x (m1 x z)
    rcases ay.mp z with z | z
    ·exact rs.new j x (m2 x z)
    ·exact rs.new l x (m3 x z)
 ·cases q
end
end L2
namespace L2
open PySem PySem.Spec PyProof.Rows
section
variable{X:Cx}{a b:Expr}{pos:Pos}{f g:DE}
end
end L2
namespace HT
open PySem PySem.Spec PyProof.Rows
section
variable{prog:Program}{w:World}{A:Around}{E:Value->Shared->Prop}{s:Shared}
end
end HT
namespace L2
open PySem PySem.Spec PyProof.Rows
section
variable{X:Cx}{e a b:Expr}{lo hi:Option Expr}{p p2 pos:Pos}
def y5C(ns:List Int):Nat->Nat
 |0=>0
 |k+1=>if decide (ns.getD (k+1) 0>ns.getD (y5C ns k) 0)=true then k+1 else y5C ns k
def mxI(ns:List Int):Int:=ns.getD (y5C ns (ns.length - 1)) 0
theorem y0n{bt:Nat->Nat->Bool}{ns:List Int}(h:∀i j,bt i j=decide (ns.getD i 0>ns.getD j 0)):∀k,argBest bt k=y5C ns k
 |0=>rfl
 |k+1=>by
  unfold argBest y5C
  rw [y0n h k,h]
theorem y9M(hc:X.calm=true):z4n X (.builtin "max") (fun xs H Q=>∃(p:Addr) (ns:List Int),xs=[.ref p]∧SqL X.K H p (ns.map V.int)∧ns≠[]∧Q (.int (mxI ns)) H):=by
 intro pins s σ H xs us Q I r h
 obtain⟨p,ns,rfl,hq,hne,q⟩:=h
 obtain⟨u,rfl,ru⟩:=z7T r
 cases ru
 obtain⟨its,rv,pl,hz⟩:=I.list hq
 have hi:=z4k rv
 obtain⟨xs,hx⟩:=hi.allInts.items
 have hl':s.heap.IsList p (intItems xs):=hx ▸ pl.isList
 have e1:ns=xs.toList.map (·.1):=by
  rw [←nums_intItems,←hx]
  exact(show numsOf its.toArray.toList=ns from hi.numsOf).symm
 have hsz:xs.size=ns.length:=by rw [e1];simp
 have hp:0<ns.length:=bS.mpr hne
 refine max_intList (I.ok.hd hc) hl' (by omega) fun v h' tk hv hk=>?_
 have eb:argBest (fun i j=>decide (numAt xs i>numAt xs j)) (xs.size - 1)=y5C ns (ns.length - 1):=by
  rw [hsz]
  refine y0n (fun i j=>?_) _
  have en:∀k,numAt xs k=ns.getD k 0:=fun k=>by
   rw [e1]
   unfold numAt
   simp [aJ]
  rw [en,en]
 rw [eb]at hv
 obtain⟨t,rfl⟩:=intItems_at hv
 have en:numAt xs (y5C ns (ns.length - 1))=mxI ns:=by
  unfold mxI
  rw [e1]
  unfold numAt
  simp [aJ]
 exact⟨.int _,H,I.kept hk,⟨t,by rw [en]⟩,q⟩
def y8k:List D->Option D
 |[.lst ds]=>(z1A ds).bind fun ns=>if ns.isEmpty=true then none else some (.int (mxI ns))
 |_=>none
theorem oa_maxL{K:aa}:OpA K (fun xs H Q=>∃(p:Addr) (ns:List Int),xs=[.ref p]∧SqL K H p (ns.map V.int)∧ns≠[]∧Q (.int (mxI ns)) H) y8k:=by
 intro H B ds d vs Q hB hr q k
 unfold y8k at q
 split at q
 ·rename_i es
  cases e:z1A es with
  |none=>rw [e]at q;cases q
  |some bs=>
   rw [e,aq]at q
   split at q
   ·cases q
   ·rename_i hn
    cases q
    obtain⟨v,rfl,r⟩:=z3w hr
    unfold Rep at r
    obtain⟨a,xs,rfl,_,h,rs⟩:=r
    rw [z3P e rs]at h
    exact⟨a,bs,rfl,SqL.of h,fun z=>hn (by rw [z];rfl),k _ H (.refl H) rfl⟩
 ·cases q
variable{f:DE}
theorem pd_maxL(hc:X.calm=true)(hg:Gl X "max")(hm:X.mg "max" = none)(h:PD X e f)(he:starEach [e] X.env=[(false,eval e X.env)]:=by rfl):PD X (.Call (.Name "max" p) [e] [] pos) (z0i y8k [f]):=
 z2s (y9M hc) oa_maxL hg hm boot_max (z0a h z0c he) (by decide) (by decide) he rfl
end
end L2
namespace PySem
namespace SetTable
def Up(xs:Array Nat):Prop:=xs.toList.Pairwise (· < ·)
theorem up_le{xs:Array Nat}(h:Up xs){i k:Nat}(hi:i<k)(hk:k<xs.size)(d:Nat):xs.getD i d<xs.getD k d:=by
 have h1:i<xs.toList.length:=by simp;omega
 have h2:k<xs.toList.length:=by simpa using hk
 have:=cj.mp h i k h1 h2 hi
 rw [cf,cf,aS (show i<xs.size by omega),aS hk]
 simpa using this
theorem y1N{xs:Array Nat}(h:Up xs)(j:Nat):∀(f lo hi:Nat),hi - lo≤f->lo≤hi->hi≤xs.size->(∀i,i<lo->xs.getD i j<j)->(∀i,hi≤i->i<xs.size->j≤xs.getD i j) →
  (∀i,i<below.go xs j f lo hi->xs.getD i j<j)∧(∀i,below.go xs j f lo hi≤i->i<xs.size->j≤xs.getD i j)∧below.go xs j f lo hi≤xs.size
 |0,lo,hi,h1,h2,h3,h4,h5=>by
  unfold below.go
  have e:lo=hi:=by omega
  subst e
  exact⟨h4,h5,h3⟩
 |f+1,lo,hi,h1,h2,h3,h4,h5=>by
  unfold below.go
  by_cases hl:lo<hi
  ·rw [if_pos hl]
   have hm1:lo≤(lo+hi) / 2:=by omega
   have hm2:(lo+hi) / 2<hi:=by omega
   generalize (lo+hi) / 2=mid at hm1 hm2
   show _∧_∧_
   by_cases hx:xs.getD mid j<j
   ·simp only [hx,if_true]
    refine y1N h j f (mid+1) hi (by omega) (by omega) h3 (fun i hi'=>?_) h5
    rcases fq i mid with z | z
    ·exact fg (up_le h z (by omega) j) hx
    ·have:i=mid:=by omega
     rw [this];exact hx
   ·simp only [hx,if_false]
    refine y1N h j f lo mid (by omega) hm1 (by omega) h4 fun i h6 h7=>?_
    rcases fq mid i with z | z
    ·have:=up_le h z h7 j
     omega
    ·have:i=mid:=by omega
     rw [this];omega
  ·rw [if_neg hl]
   have e:lo=hi:=by omega
   subst e
   exact⟨h4,h5,h3⟩
theorem below_spec{xs:Array Nat}(h:Up xs)(j:Nat):(∀i,i<below xs j->xs.getD i j<j)∧(∀i,below xs j≤i->i<xs.size->j≤xs.getD i j)∧below xs j≤xs.size:=
 y1N h j xs.size 0 xs.size (by omega) (bX _) (ao _) (fun i hi=>absurd hi (by omega)) fun i h1 h2=>absurd h2 (by omega)
def NL(t:SetTable)(j:Nat):Prop:=t.place[below t.place j]?≠some j
theorem insert_up{xs:Array Nat}(h:Up xs){j:Nat}(hn:xs[below xs j]?≠some j):Up (insertAt xs (below xs j) j):=by
 obtain⟨a,b,c⟩:=below_spec h j
 unfold Up
 rw [toList_insertAt]
 generalize below xs j=p at *
 have gt:∀i (hi:i<xs.toList.length),xs.getD i j=xs.toList[i]:=fun i hi=>by
  rw [cf,aS (by simpa using hi)]
  simp
 have low:∀x∈xs.toList.take p,x<j:=fun x hx=>by
  obtain⟨i,hi,rfl⟩:=bj.mp hx
  rw [dW]at hi
  rw [List.getElem_take,←gt i (by omega)]
  exact a i (by omega)
 have high:∀x∈xs.toList.drop p,j<x:=fun x hx=>by
  obtain⟨i,hi,rfl⟩:=bj.mp hx
  rw [List.length_drop]at hi
  rw [List.getElem_drop,←gt (p+i) (by omega)]
  have h1:=b (p+i) (by omega) (by simp at hi;omega)
  by_cases hi0:i=0
  ·subst hi0
   have h2:xs[p]? = some (xs.getD p j):=by
    rw [cf,aS (by simp at hi;omega)]
    rfl
   have h3:xs.getD p j≠j:=fun z=>hn (by rw [h2,z])
   rw [Nat.add_zero]at h1 ⊢
   omega
  ·have h2:=up_le h (show p<p+i by omega) (by simp at hi;omega) j
   have h3:=b p (ao _) (by simp at hi;omega)
   omega
 refine List.pairwise_append.mpr ⟨h.sublist (List.take_sublist ..),bh.mpr ⟨high,h.sublist (List.drop_sublist ..)⟩,fun x hx y hy=>?_⟩
 rcases ai.mp hy with z | z
 ·rw [z];exact low x hx
 ·exact fg (low x hx) (high y z)
theorem y6X{t:SetTable}{j:Nat}(h:∀i,t.slot j≠.live i):NL t j:=fun z=>by
 refine h (below t.place j) ?_
 unfold slot
 show(if(t.place[below t.place j]? == some j)=true then _ else _)=_
 rw [if_pos (by rw [z];simp)]
theorem go_nl{t:SetTable}{ha:Nat->Int}{hh:Int}:∀{f:Nat} {p:Probe} {j:Nat} {d:Option Nat},(∀x,p.dummy=some x->NL t x)->probe.go t ha hh f p=some (.empty j d)->NL t (d.getD j)
 |0,p,j,d,hp,h=>by unfold probe.go at h;cases h
 |f+1,p,j,d,hp,h=>by
  unfold probe.go at h
  have adv:∀q:Probe,(t.advance q).dummy=q.dummy:=fun q=>by
   unfold advance
   split <;> rfl
  cases e:t.slot p.j with
  |empty=>
   rw [e]at h
   cases h
   cases hd:p.dummy with
   |none=>
    refine y6X fun i z=>?_
    have z:t.slot p.j = .live i:=z
    rw [e]at z
    cases z
   |some x=>exact hp x hd
  |dummy=>
   rw [e]at h
   refine go_nl (fun x hx=>?_) h
   rw [adv]at hx
   cases hx
   exact y6X fun i z=>by rw [e]at z;cases z
  |live i=>
   rw [e]at h
   have h:(if(ha i==hh)=true then some (Met.candidate p.j i (t.advance p))else probe.go t ha hh f (t.advance p))=some (.empty j d):=h
   split at h
   ·cases h
   ·exact go_nl (fun x hx=>hp x (by rw [adv]at hx;exact hx)) h
end SetTable
def TI(t:SetTable):Prop:=t.led=true∧(t.plain=true->SetTable.Up t.place)
theorem z4g{t:SetTable}{n:Nat}(h:TI t):TI (t.standIn n):=⟨h.1,fun z=>by cases z⟩
theorem y0y{t:SetTable}{n:Nat}(h:TI t):TI (t.orStandIn n):=by
 unfold SetTable.orStandIn
 split
 ·exact h
 ·exact z4g h
theorem y6b{t:SetTable}{es:Array (Int×Value)}{h:Int}{x:Value}(ht:TI t):TI (layNew t es h x).2.1:=by
 unfold layNew
 cases e:t.freeSlot h with
 |none=>exact z4g ht
 |some z=>
  obtain⟨slot,wd⟩:=z
  have nl:SetTable.NL t slot:=by
   unfold SetTable.freeSlot at e
   split at e
   ·rename_i j d ep
    cases e
    exact SetTable.go_nl (fun x hx=>by cases hx) ep
   ·cases e
  show TI ((t.put slot).1.orStandIn _)
  refine y0y ⟨ht.1,fun hp=>?_⟩
  exact SetTable.insert_up (ht.2 hp) nl
theorem y1M{f:Nat->Option Nat}:∀l:List Nat,(l.filterMap fun j=>(f j).map fun z=>(j,z)).map (·.1)=l.filter fun j=>(f j).isSome
 |[]=>rfl
 |j::l=>by
  rw [bT,bL]
  cases e:f j with
  |none=>simpa [e] using y1M l
  |some z=>simpa [e] using y1M l
theorem y1J{t:SetTable}{es:Array (Int×Value)}{n:Nat}(ht:TI t):TI (relayAll t es n).2.1:=by
 unfold relayAll
 cases e:t.relaid (es.map (·.1)) n with
 |none=>exact z4g ht
 |some z=>
  obtain⟨t',order⟩:=z
  show TI (if _ then _ else _:Array (Int×Value)×SetTable×Bool).2.1
  split
  ·unfold SetTable.relaid SetTable.laid at e
   cases ho:SetTable.layClean (SetTable.sizeAbove n - 1) (es.map (·.1))with
   |none=>rw [ho]at e;cases e
   |some ow=>
    rw [ho]at e
    cases e
    refine⟨ht.1,fun _=>?_⟩
    unfold SetTable.Up
    show List.Pairwise _ (((ad _).filterMap fun j=>(ow.getD j none).map fun z=>(j,z)).map (·.1))
    rw [y1M]
    exact List.Pairwise.filter _ bG
  ·exact z4g ht
theorem x0X:TI (SetTable.fresh 0 0 true):=⟨rfl,fun _=>List.Pairwise.nil⟩
end PySem
namespace PySem
section
variable{prog:Program}{w:World}{K:Type}[DecidableEq K](knd:KeyKind prog w K)
def Heap.SetW(g:Heap)(a:Addr)(S:K->Bool)(n:Nat):Prop:=
 ∃ob xs ep tb,g.get? a=some ob∧ob.ExactSet∧ob.data = .set xs ep tb∧ElemsOf knd xs.toList∧(∀k,S k=true↔∃e∈xs.toList,knd.is k e.2=true)
  ∧ xs.size<scanBound∧tb.fits xs.size=true∧xs.size=n∧(w.params.followText "set-order" = true∨TI tb)
variable{knd}{A:Around}{E:Value->Shared->Prop}{s:Shared}
theorem z8r{g:Heap}{a:Addr}{ob:Obj}{xs ys:Array (Int×Value)}{ep:Nat}{tb tc:SetTable}{S':K->Bool}(g1:g.get? a=some ob)(g2:ob.ExactSet)(g3:ob.data = .set xs ep tb)
  (k1:ElemsOf knd ys.toList) (k2:∀k,S' k=true↔∃e∈ys.toList,knd.is k e.2=true) (k3:ys.size<scanBound) (k4:tc.fits ys.size=true) (k5:w.params.followText "set-order" = true∨TI tc):
  (g.update a (Obj.putSet ys tc)).get? a=some { ob with data:=.set ys (ep+1) tc }∧(g.update a (Obj.putSet ys tc)).SetW knd a S' ys.size:=by
 obtain⟨e1,_⟩:=SetOf_store (knd:=knd) g1 g2 g3 k1 k2 k3 k4
 exact⟨e1,_,ys,ep+1,tc,e1,g2,rfl,k1,k2,k3,k4,rfl,k5⟩
theorem y3q{gw:Bool->Sem Unit}(hgw:∀(b:Bool) (s₁:Shared) (Q':Unit->Shared->Prop),Q' () s₁->wpAny (model prog w) A (gw b) Q' E s₁)
  {a:Addr} {ob:Obj} {xs ys:Array (Int×Value)} {ep:Nat} {tb tc:SetTable} {S':K->Bool} (g1:s.heap.get? a=some ob) (g2:ob.ExactSet) (g3:ob.data = .set xs ep tb)
  (k1:ElemsOf knd ys.toList) (k2:∀k,S' k=true↔∃e∈ys.toList,knd.is k e.2=true) (k3:ys.size<scanBound) (k4:tc.fits ys.size=true) (k5:w.params.followText "set-order" = true∨TI tc) {wd:Bool} {R:Option Bool->Shared->Prop}
  (fin:∀g',Heap.SameBut a s.heap g'->g'.SetW knd a S' ys.size->R (some true) { s with heap:=g' }):
  wpAny (model prog w) A (do
    storeSet a ys tc
    if(!wd&&tc.tooFull)=true then do
      gw (relayAll tc ys (SetTable.grown ys.size)).2.2
      storeSet a (relayAll tc ys (SetTable.grown ys.size)).1 (relayAll tc ys (SetTable.grown ys.size)).2.1
      pure (some true)
     else pure (some true)) R E s:=by
 refine wpAny_bind (wpAny_storeSet_of g1 g3 ?_ (fits_of_scanBound k3))
 obtain⟨o1,w1⟩:=z8r (knd:=knd) g1 g2 g3 k1 k2 k3 k4 k5
 have sb:=Heap.SameBut.update s.heap a (Obj.putSet ys tc)
 split
 ·have rp:=relayAll_perm tc ys (SetTable.grown ys.size)
  have rf:=relayAll_fits tc ys (SetTable.grown ys.size)
  have rt:w.params.followText "set-order" = true∨TI (relayAll tc ys (SetTable.grown ys.size)).2.1:=k5.imp id y1J
  generalize relayAll tc ys (SetTable.grown ys.size)=Z at rp rf rt ⊢
  obtain⟨zs,td,gv⟩:=Z
  dsimp only at rp rf rt ⊢
  have m1:ElemsOf knd zs.toList:=k1.perm rp
  have m2:∀k',S' k'=true↔∃e∈zs.toList,knd.is k' e.2=true:=fun k'=>(k2 k').trans ⟨fun⟨e,he,q⟩=>⟨e,rp.mem_iff.mpr he,q⟩,fun⟨e,he,q⟩=>⟨e,rp.mem_iff.mp he,q⟩⟩
  have sz:zs.size=ys.size:=by simpa using rp.length_eq
  have m3:zs.size<scanBound:=sz ▸ k3
  refine wpAny_bind (hgw _ _ _ ?_)
  refine wpAny_bind (wpAny_storeSet_of o1 rfl ?_ (fits_of_scanBound m3))
  obtain⟨_,w2⟩:=z8r (knd:=knd) o1 g2 rfl m1 m2 m3 rf rt
  rw [sz]at w2
  exact wpAny_pure (fin _ (sb.trans (Heap.SameBut.update _ a _)) w2)
 ·exact wpAny_pure (fin _ sb w1)
theorem addW{a:Addr}{S:K->Bool}{n:Nat}{k:K}{x:Value}{Q:Bool->Shared->Prop}(kx:knd.is k x=true)(sx:x.scannable=true)(hS:s.heap.SetW knd a S n)(room:n+1<scanBound)
  (fin:∀g',Heap.SameBut a s.heap g'->g'.SetW knd a (fun k'=>S k'||decide (k'=k)) (if S k then n else n+1)->Q (!S k) { s with heap:=g' }):
  wpAny (model prog w) A (setAddHashed a x (knd.hash k)) Q E s:=by
 obtain⟨ob,xs,ep,tb,g1,g2,g3,g4,g5,g6,g7,g8,g9⟩:=hS
 have room':xs.size+1<scanBound:=by omega
 unfold setAddHashed setAddHashedIn
 refine wpAny_holding (wpAny_bind (wpAny_setState_of g1 g3 g7 ?_))
 dsimp only
 rw [byScan_of sx g6 g4]
 simp only [↓reduceIte]
 unfold setAddByScan
 refine wpAny_bind ?_
 refine wpAny_bind (wpAny_rule ?_)
 refine wpAny_bind (wpAny_setScan_of kx g1 g3 g7 g4 ?_)
 cases fi:List.findIdx? (fun e=>knd.is k e.2) xs.toList with
 |some j=>
  dsimp only
  obtain⟨hj,hp,_⟩:=List.findIdx?_eq_some_iff_getElem.mp fi
  have yes:S k=true:=(g5 k).mpr ⟨xs.toList[j],aR hj,hp⟩
  refine wpAny_pure (wpAny_pure ?_)
  have z:=fin s.heap (Heap.SameBut.refl a s.heap) ⟨ob,xs,ep,tb,g1,g2,g3,g4,fun k'=>by
   rw [cR,decide_eq_true_eq,←g5 k']
   exact⟨fun q=>q.elim id fun e=>e ▸ yes,.inl⟩,g6,g7,by rw [yes];exact g8,g9⟩
  rw [yes]at z
  exact z
 |none=>
  dsimp only
  have no:S k=false:=by
   rw [←c5]
   intro hk
   obtain⟨e,he,hp⟩:=(g5 k).mp hk
   have:=List.findIdx?_eq_none_iff.mp fi e he
   rw [hp]at this
   cases this
  have gw:∀(b:Bool) (s₁:Shared) (Q':Unit->Shared->Prop),Q' () s₁->wpAny (model prog w) A (match b with | true=>rule "set.scan.the-table-gave-way" |false=>pure ()) Q' E s₁:=by
   intro b s₁ Q' hq
   cases b
   ·exact wpAny_pure hq
   ·exact wpAny_rule hq
  have lp:=layNew_perm tb xs (knd.hash k) x
  have lf:=layNew_fits tb xs (knd.hash k) x
  have lt:w.params.followText "set-order" = true∨TI (layNew tb xs (knd.hash k) x).2.1:=g9.imp id y6b
  generalize layNew tb xs (knd.hash k) x=L at lp lf lt ⊢
  obtain⟨ys,tc,wd,gv⟩:=L
  dsimp only at lp lf lt ⊢
  rw [fH]at lp
  have m1:ElemsOf knd ys.toList:=(g4.push kx sx).perm lp
  have m2:∀k',(S k'||decide (k'=k))=true↔∃e∈ys.toList,knd.is k' e.2=true:=mem_push_iff kx g5 lp
  have m0:ys.size=n+1:=by
   have:=lp.length_eq
   simp at this
   omega
  have m3:ys.size<scanBound:=by omega
  refine wpAny_bind (gw _ _ _ ?_)
  have done:∀g',Heap.SameBut a s.heap g'->g'.SetW knd a (fun k'=>S k'||decide (k'=k)) ys.size->Q true { s with heap:=g' }:=fun g' sb z=>by
   have:=fin g' sb
   rw [no]at this
   rw [m0]at z
   exact this z
  split
  ·refine wpAny_bind ?_
   rw [hashByValue_scannable 8 sx]
   refine wpAny_pure ?_
   refine y3q gw g1 g2 g3 m1 m2 m3 ?_ ?_ fun g' sb z=>wpAny_pure (done g' sb z)
   ·split
    ·exact lf
    ·exact SetTable.fits_plain_off lf
   ·split
    ·exact lt
    ·exact lt.imp id fun z=>⟨z.1,fun q=>by cases q⟩
  ·refine wpAny_bind (wpAny_pure ?_)
   simp only [↓reduceIte]
   exact y3q gw g1 g2 g3 m1 m2 m3 lf lt fun g' sb z=>wpAny_pure (done g' sb z)
end
section
variable{prog:Program}{w:World}{A:Around}{R:Result->Shared->Prop}{I:Addr}{fp wr:List Addr}{G:Array GenState->Array GenState->Prop}{n:Nat}{P:Nat->Value->Prop}{St:Nat->Shared->Prop}
open PyProof.Rows in
theorem updateW(W:WalksS prog w A.in1 I fp wr G n P St)(a:Addr)(af:a∉fp)(val:Nat->Int)(hv:∀i v,P i v->∃t,v = .int (val i) t)(hb:n+1<scanBound):
  ∀(k i:Nat) (s:Shared),n - i=k->i≤n->St i s->s.heap.SetW (intKind prog w) a (fun z=>(firstMet val i).any (· == z)) (firstMet val i).length →
   (∀s',Moved (a::wr) G s s'->s'.heap.SetW (intKind prog w) a (fun z=>(firstMet val n).any (· == z)) (firstMet val n).length->R (.ok (.ret .none)) s') →
   codeAny (model prog w) A (.builtin "set.update.loop" ⟨[.ref a,.ref I],[]⟩) R s:=by
 have aw:a∉wr:=fun z=>af (W.sub _ z)
 have sub:∀b∈wr,b∈a::wr:=fun b z=>ag _ z
 have keep:∀{s s':Shared} {S:Int->Bool} {m:Nat},Moved wr G s s'->s.heap.SetW (intKind prog w) a S m->s'.heap.SetW (intKind prog w) a S m:=fun {s s' S m} mv ⟨ob,xs,ep,tb,g1,g⟩=>⟨ob,xs,ep,tb,mv.heap a _ aw g1,g⟩
 intro k
 induction k with
 |zero=>
  intro i s hk hi st hS fin
  obtain rfl:i=n:=by omega
  refine codeAny_builtin F.entry_set_update_loop ?_
  rw [Around.under_plainId F.plain_set_update_loop _]
  show wpAny _ A.in1 (pyNext (.ref I) >>= _) _ _ s
  refine wpAny_bind (W.done s _ _ st fun s' mv=>?_)
  show wpAny _ A.in1 (ret Value.none) _ _ s'
  exact wpAny_pure (fin s' (mv.mono sub) (keep mv hS))
 |succ k ih=>
  intro i s hk hi st hS fin
  have lt:i<n:=by omega
  refine codeAny_builtin F.entry_set_update_loop ?_
  rw [Around.under_plainId F.plain_set_update_loop _]
  show wpAny _ A.in1 (pyNext (.ref I) >>= _) _ _ s
  refine wpAny_bind (W.item i s _ _ lt st fun v s' hP st' mv=>?_)
  obtain⟨t,rfl⟩:=hv i v hP
  show wpAny _ A.in1 (holding [Value.int (val i) t] (setAdd a (.int (val i) t)) >>= _) _ _ s'
  refine wpAny_bind (wpAny_holding ?_)
  unfold setAdd
  refine wpAny_holding ?_
  refine wpAny_bind ((intKind prog w).pyHash (k:=val i) (intKind_is _ _ _ _) ?_)
  have room:(firstMet val i).length+1<scanBound:=by have:=firstMet_length_le val i;omega
  refine addW (knd:=intKind prog w) (s:={ s' with toks:=s'.toks+1 }) (intKind_is _ _ _ _) rfl (show s'.heap.SetW _ a _ _ from keep mv hS) room fun g' sb w2=>?_
  have w3:g'.SetW (intKind prog w) a (fun z=>(firstMet val (i+1)).any (· == z)) (firstMet val (i+1)).length:=by
   have e1:(fun z=>(firstMet val i).any (· == z)||decide (z=val i))=fun z=>(firstMet val (i+1)).any (· == z):=funext fun z=>by rw [firstMet_succ,step_any]
   have e2:(if((firstMet val i).any (· == val i))=true then(firstMet val i).length else(firstMet val i).length+1)=(firstMet val (i+1)).length:=by rw [firstMet_succ,step_length]
   rw [e1,e2]at w2
   exact w2
  refine wpAny_pure ⟨plainId_quiet F.plain_set_update_loop _,ih (i+1) _ (by omega) lt (W.frame _ s' _ _ st' (cN _) fun b hb o e=>?_) w3 fun s2 mv2 w4=>?_⟩
  ·rw [sb.2 b fun z=>af (z ▸ hb)]
   exact e
  ·refine fin s2 (Moved.trans W.gtrans ((mv.mono sub).then_heap (cN _) fun b o hb e=>?_) mv2) w4
   rw [sb.2 b fun z=>hb (z ▸ ah)]
   exact e
end
end PySem
namespace PySem
section
variable{prog:Program}{w:World}{A:Around}{E:Value->Shared->Prop}{s:Shared}
open PyProof.Rows in
theorem x1t(a:Value){Q₁:Value->Shared->Prop}
  (h:Q₁ (.ref s.heap.objs.size) { s with heap:=s.heap.push { cls:=.type "set",dict:=none,data:=.set #[] 0 (.fresh 0 0 (!w.params.followText "set-order")) } }):
  codeAny (model prog w) A (.call (.builtin "set.__new__") ⟨[.type "set",a],[]⟩) (wants Q₁ E) s:=by
 refine codeAny_of_tree ?_
 show wpAny _ A.in1 (do checkBuiltinCall "set.__new__" ⟨[.type "set",a],[]⟩;again (.builtin "set.__new__" ⟨[.type "set",a],[]⟩)) _ _ s
 refine wpAny_bind (wpAny_of_eq (F.newCall_set_1 a) (wpAny_pure ⟨plainId_quiet F.plain_set_new _,codeAny_builtin F.entry_set_new ?_⟩))
 rw [Around.under_plainId F.plain_set_new _]
 unfold Builtin.«set.__new__» Builtin.Frozenset.newClass
 have hsub:=sub_set_self
 obtain⟨hp,g,d,tk,os⟩:=s
 dsimp only
 wp_walk
 refine wpAny_askSetting (wpAny_pure ?_)
 dsimp only
 simp only [newObj]
 refine wpAny_bind (wpAny_alloc (wpAny_pure ?_))
 exact wpAny_pure h
set_option maxHeartbeats 3200000 in
open PyProof.Rows in
theorem y8b{l:Addr}{its:Array Value}{ns:List Int}{Q:Value->Shared->Prop}(hh:A.handled=none)(hl:s.heap.IsList l its)(hi:IntsAre its.toList ns)(hb:its.size+1<scanBound)
  (fin:∀(g':Heap) (tk:Nat),g'.SetW (intKind prog w) s.heap.objs.size (fun z=>(firstMet (fun i=>ns.getD i 0) its.size).any (· == z)) (firstMet (fun i=>ns.getD i 0) its.size).length →
   (∀b o,b<s.heap.objs.size->s.heap.get? b=some o->g'.get? b=some o)->Q (.ref s.heap.objs.size) { s with heap:=g',toks:=tk }):
  wpAny (model prog w) A (call (.type "set") [.ref l]) Q E s:=by
 obtain⟨c,tl,m1⟩:=F.called_set.mro
 have m2:=F.called_set.made
 have m3:=F.called_set.sub
 refine wpAny_call (codeAny_of_tree ?_)
 show wpAny _ _ (callAny (.type "set") _) _ _ _
 refine wpAny_pure ⟨Code.quiet_builtin _ (by decide +kernel),codeAny_builtin F.entry_type_call ?_⟩
 rw [Around.under_plain (weight_type_call_type "set" [.ref l] []) rfl]
 have m4:=F.called_set.notType
 have m5:=F.called_set.canCreate
 have m6:=F.typeCall_set_1 (.ref l)
 repeat (any_goals (first | assumption | wp_step))
 obtain⟨ob,hob⟩:∃ob:Obj,ob = { cls:=.type "set",dict:=none,data:=.set #[] 0 (.fresh 0 0 (!w.params.followText "set-order")) }:=⟨_,rfl⟩
 refine codeAny_mono (x1t (.ref l) (E:=E) (Q₁:=fun v s₁=>v = .ref s.heap.objs.size∧s₁ = { s with heap:=s.heap.push ob }) ⟨rfl,by rw [hob]⟩) fun r s₁ hr=>?_
 cases r with
 |error e=>exact hr
 |ok fl=>
  cases fl with
  |ret v=>
   obtain⟨rfl,rfl⟩:=hr
   have p1:(s.heap.push ob).get? s.heap.objs.size=some ob:=Heap.get?_push_size _ (by rw [hob];rfl)
   have p2:Shared.TypeIs { s with heap:=s.heap.push ob } (.ref s.heap.objs.size) "set" := ⟨_,p1,by rw [hob]⟩
   have p3:=F.called_set.init.lookup
   have p4:=F.called_set.init.bind (.ref s.heap.objs.size)
   repeat (any_goals (first | assumption | wp_step))
   refine codeAny_mono (codeAny_call_builtin (R:=wants (fun r s₂=>r = .none∧∃g' tk,s₂ = { s with heap:=g',toks:=tk } ∧
     g'.SetW (intKind prog w) s.heap.objs.size (fun z=>(firstMet (fun i=>ns.getD i 0) its.size).any (· == z)) (firstMet (fun i=>ns.getD i 0) its.size).length ∧
     (∀b o,b<s.heap.objs.size->s.heap.get? b=some o->g'.get? b=some o)) E) F.called_set.init.plain F.entry_set_init (check_set_init_1 p2 ?_)) fun r₂ s₂ hr₂=>?_
   ·obtain⟨ol,q1,q2,nl,q3⟩:=hl
    obtain⟨ocls,odict,odata,oslots⟩:=ol
    simp only at q2 q3
    subst q2;subst q3
    have q4:(s.heap.push ob).get? l=some { cls:=.type "list",dict:=odict,data:=.seq its nl,slots:=oslots }:=Heap.get?_push_of_some _ q1
    have q5:=F.sub_list_set
    have q6:=F.sub_list_frozenset
    have q7:(Value.type "list" == Value.type "dict")=false:=by decide
    have q8:(s.heap.push ob).IsList l its:=⟨_,q4,rfl,nl,rfl⟩
    unfold Builtin.«set.__init__» noKeywords Builtin.Frozenset.updateFrom
    generalize hPI:pyIter=PI
    rw [hob]at p1 p2 q4 q8 ⊢
    wp_walk
    subst hPI
    refine wpAny_pyIter_list q8 ?_
    refine wpAny_bind (wpAny_runValue ?_)
    have ls:l<s.heap.objs.size:=Heap.lt_size q1
    have hh3:A.in1.in1.in1.handled=none:=by simp [hh]
    rw [←hob]at p1 q8 ⊢
    have ne1:l≠(s.heap.push ob).objs.size:=by
     rw [Heap.size_push]
     exact aC (bI ls)
    have af:s.heap.objs.size∉[(s.heap.push ob).objs.size,l]:=fun z=>by
     rw [Heap.size_push]at z
     rcases ai.mp z with z | z
     ·exact absurd z (aC (c7 _))
     ·exact absurd (ax.mp z) (cA ls)
    refine updateW ((Walks.list hh3 _ l ne1 its).toS) s.heap.objs.size af (fun i=>ns.getD i 0) (fun i v hv=>IntsAre.int_at hi i v (by rw [cE];exact hv)) hb (its.size - 0) 0 _ (by omega) (bX _)
     ⟨⟨_,Heap.get?_push_size _ rfl,rfl,rfl⟩,(q8.push _)⟩ ?h0 ?h1
    case h0=>
     have e1:((s.heap.push ob).push { cls:=.type "list_iterator",data:=.fields #[.ref l,.int 0 0] }).get? s.heap.objs.size=some ob:=Heap.get?_push_of_some _ p1
     refine⟨ob,#[],0,.fresh 0 0 (!w.params.followText "set-order"),e1,by rw [hob];exact⟨rfl,rfl,rfl⟩,by rw [hob],(fun e he=>nomatch he),fun k=>?_,by decide,rfl,rfl,?_⟩
     ·constructor
      ·intro z;cases z
      ·rintro⟨e,he,_⟩;cases he
     ·cases hf:w.params.followText "set-order" with
      |true=>exact .inl rfl
      |false=>exact .inr x0X
    case h1=>
     intro s' mv w1
     obtain⟨g',gs,dr,tk',os'⟩:=s'
     have eg:gs=s.gens:=mv.gens
     have ed:dr=s.drawn:=mv.drawn
     have eo:os'=s.os:=mv.os
     subst eg;subst ed;subst eo
     refine wpAny_pure ?_
     show wpAny _ _ (ret Value.none) _ _ _
     refine wpAny_pure ⟨rfl,g',tk',rfl,w1,fun b o hb e=>?_⟩
     refine mv.heap b o (fun z=>?_) (Heap.get?_push_of_some _ (Heap.get?_push_of_some _ e))
     rcases ai.mp z with z | z
     ·exact absurd z (aC hb)
     ·rw [ax,Heap.size_push]at z
      exact absurd z (aC (bI hb))
   ·cases r₂ with
    |error e=>exact hr₂
    |ok fl₂=>
     cases fl₂ with
     |ret r=>
      obtain⟨rfl,g',tk,rfl,w1,w2⟩:=hr₂
      repeat (any_goals (first | assumption | wp_step))
      exact fin _ _ w1 w2
     |_=>exact hr₂.elim
  |_=>exact hr.elim
end
end PySem
namespace PySem
theorem y2P:entryFor table "set.__iter__" = some Builtin.«frozenset.__iter__»:=entryFor_alias (id' := "frozenset.__iter__") (by kernel_rfl) rfl (by decide +kernel) (by kernel_rfl)
theorem sl_sit_next:Slot "set_iterator" "__next__" "set_iterator.__next__" :=
 .of (owner := "set_iterator") (n := "__next__") (by rw [typeLookup_type,builtinLookup_eq_fast];kernel_rfl) (by decide +kernel) (by decide +kernel) (by decide +kernel) (by first | exact .inl (by decide +kernel) | exact .inr (by decide +kernel)) (by rw [isSubtype_type];kernel_rfl)
theorem z2X:entryFor table "set_iterator.__next__" = some Builtin.«set_iterator.__next__»:=entryFor_of_tree (by kernel_rfl)
theorem x3e:Manifest.owners.lookup (String.ofList ['r','o','t','a','r','e','t','i','_','t','e','s'].reverse)=some Manifest.sig_set_iterator:=by kernel_rfl
theorem z3l(a:Value):argsOk "set_iterator.__next__" ⟨[a],[]⟩:=by
 unfold argsOk
 rw [signature?_of (id := "set_iterator.__next__") (n:=['_','_','t','x','e','n','_','_']) (o:=['r','o','t','a','r','e','t','i','_','t','e','s']) (by kernel_rfl) x3e]
 kernel_rfl
theorem z5E{α:Type}:∀{l:List α} {i:Nat} (h:i<l.length),(l[i]::l.eraseIdx i).Perm l
 |x::r,0,_=>.refl _
 |x::r,i+1,h=>by
  have hi:i<r.length:=by simpa using h
  exact(List.Perm.swap x (r[i]'hi) (r.eraseIdx i)).trans ((z5E hi).cons x)
section
variable{M:Model}{A:Around}{E:Value->Shared->Prop}{s:Shared}
theorem y4G{src:Source}{n:Nat}{Q:Nat->Shared->Prop}(hn:n≠0)(h:∀i,i<n->∀dr,Q i { s with drawn:=dr }):wpAny M A (choose src n) Q E s:=fun Γ p _=>⟨hn,h _ (Nat.mod_lt _ (Nat.pos_of_ne_zero hn)) _⟩
theorem z7v{α:Type}:∀(n:Nat) (xs:List α) (s:Shared) {Q:List α->Shared->Prop},xs.length=n->(∀ys dr,ys.Perm xs->Q ys { s with drawn:=dr })->wpAny M A (drawOrder n xs) Q E s
 |0,[],s,Q,_,h=>wpAny_pure (h [] s.drawn (.refl _))
 |0,_::_,_,_,hl,_=>by cases hl
 |n+1,[],_,_,hl,_=>by cases hl
 |n+1,x::r,s,Q,hl,h=>by
  unfold drawOrder
  refine wpAny_bind (y4G (by simp) fun i hi dr=>?_)
  obtain⟨y,hy⟩:∃y,(x::r)[i]? = some y:=⟨(x::r)[i],ac hi⟩
  rw [hy]
  refine wpAny_bind (z7v n ((x::r).eraseIdx i) _ (by rw [eF hi];simp at hl ⊢;omega) fun ys dr2 hp=>wpAny_pure (h (y::ys) dr2 ?_))
  obtain⟨hi',rfl⟩:=aX.mp hy
  exact(hp.cons _).trans (z5E hi')
end
theorem y1i{α:Type}(next:Nat->Nat):∀(f k:Nat) (left:List α) (out:Array α),left.length=f->(pickOrder.go next f k left out).toList.Perm (out.toList++left)
 |0,k,left,out,h=>by
  obtain rfl:=bP.mp h
  unfold pickOrder.go
  simp
 |f+1,k,left,out,h=>by
  unfold pickOrder.go
  have hi:next k % left.length<left.length:=Nat.mod_lt _ (by omega)
  rw [ac hi]
  refine(y1i next f (k+1) _ _ (by rw [eF hi];omega)).trans ?_
  rw [fH,aZ]
  exact List.Perm.append_left _ (z5E hi)
theorem y4F{α:Type}(next:Nat->Nat)(xs:Array α):(pickOrder next xs).toList.Perm xs.toList:=by
 have:=y1i next xs.size 0 xs.toList #[] (by simp)
 unfold pickOrder
 simpa using this
section
variable{prog:Program}{w:World}{A:Around}{E:Value->Shared->Prop}{s:Shared}
theorem y7i{a:Addr}{ob:Obj}{xs:Array (Int×Value)}{ep sl i:Nat}{tb:SetTable}{Q:Option (Value×Nat)->Shared->Prop}(g1:s.heap.get? a=some ob)(g3:ob.data = .set xs ep tb)(g7:tb.fits xs.size=true)
  (ht:w.params.followText "set-order" = true) (h:Q (((pickOrder (w.params.setOrder a ep) xs)[i]?).map fun e=>(e.2,sl)) s):wpAny (model prog w) A (setNext a sl i ep) Q E s:=by
 unfold setNext
 refine wpAny_bind (wpAny_setState_of g1 g3 g7 ?_)
 dsimp only
 unfold setsByText
 refine wpAny_bind (wpAny_bind (wpAny_askSetting (wpAny_pure ?_)))
 show wpAny _ _ (if w.params.followText "set-order" = true then _ else _) _ _ s
 rw [if_pos ht,if_neg (by simp)]
 refine wpAny_bind ?_
 unfold setWalk
 refine wpAny_bind (wpAny_setState_of g1 g3 g7 ?_)
 dsimp only
 unfold setsByText
 refine wpAny_bind (wpAny_bind (wpAny_askSetting (wpAny_pure ?_)))
 show wpAny _ _ (if w.params.followText "set-order" = true then _ else _) _ _ s
 rw [if_pos ht]
 exact wpAny_bind (wpAny_askSetting (wpAny_pure (wpAny_pure h)))
def slP(tb:SetTable):Nat->Nat
 |0=>0
 |i+1=>tb.place.getD i 0+1
theorem x1f{tb:SetTable}(hu:SetTable.Up tb.place){i:Nat}(hi:i≤tb.place.size):SetTable.below tb.place (slP tb i)=i:=by
 obtain⟨a,b,c⟩:=SetTable.below_spec hu (slP tb i)
 have gd:∀k d,k<tb.place.size->tb.place.getD k d=tb.place.getD k 0:=fun k d hk=>by simp [hk]
 rcases dS (SetTable.below tb.place (slP tb i)) i with z | z | z
 ·have h1:=b _ (ao _) (by omega)
  generalize SetTable.below tb.place (slP tb i)=r at h1 z
  rw [gd r _ (by omega)]at h1
  cases i with
  |zero=>omega
  |succ i=>
   have h2:slP tb (i+1)=tb.place.getD i 0+1:=rfl
   rw [h2]at h1
   rcases fq r i with q | q
   ·have:=SetTable.up_le hu q (by omega) 0
    omega
   ·have:r=i:=by omega
    rw [this]at h1
    omega
 ·exact z
 ·have h1:=a i z
  rw [gd i _ (by omega)]at h1
  cases i with
  |zero=>have h2:slP tb 0=0:=rfl;omega
  |succ i=>
   have h2:slP tb (i+1)=tb.place.getD i 0+1:=rfl
   have:=SetTable.up_le hu (show i<i+1 by omega) (by omega) 0
   omega
theorem y4E{a:Addr}{ob:Obj}{xs:Array (Int×Value)}{ep i:Nat}{tb:SetTable}{Q:Option (Value×Nat)->Shared->Prop}(g1:s.heap.get? a=some ob)(g3:ob.data = .set xs ep tb)(g7:tb.fits xs.size=true)
  (ht:w.params.followText "set-order" = false) (hd:(!tb.plain&&decide (xs.size>1))=false) (hled:tb.led=true) (hu:SetTable.Up tb.place) (hi:i≤xs.size) (h:Q ((xs[i]?).map fun e=>(e.2,slP tb (i+1))) s):wpAny (model prog w) A (setNext a (slP tb i) i ep) Q E s:=by
 have hp:tb.place.size=xs.size:=by
  unfold SetTable.fits at g7
  rw [aH]at g7
  exact eq_of_beq g7.1
 unfold setNext
 refine wpAny_bind (wpAny_setState_of g1 g3 g7 ?_)
 dsimp only
 unfold setsByText
 refine wpAny_bind (wpAny_bind (wpAny_askSetting (wpAny_pure ?_)))
 show wpAny _ _ (if w.params.followText "set-order" = true then _ else _) _ _ s
 rw [if_neg (by rw [ht];exact ar)]
 show wpAny _ _ (if(!tb.plain&&decide (xs.size>1))=true then _ else _) _ _ s
 rw [if_neg (by rw [hd];exact ar)]
 refine wpAny_bind ?_
 show wpAny _ _ (if(!tb.led && !xs.isEmpty)=true then _ else _) _ _ s
 rw [if_neg (by rw [hled];exact ar)]
 refine wpAny_pure (wpAny_pure ?_)
 show Q (match xs[SetTable.below tb.place (slP tb i)]?,tb.place[SetTable.below tb.place (slP tb i)]? with | some (_,x),some j=>some (x,j+1) | _,_=>none) s
 rw [x1f hu (by omega)]
 by_cases hlt:i<xs.size
 ·rw [aS hlt]at h ⊢
  rw [aS (show i<tb.place.size by omega)]
  have e:slP tb (i+1)=tb.place[i]+1:=by
   show tb.place.getD i 0+1=_
   simp [show i<tb.place.size by omega]
  rw [e]at h
  exact h
 ·rw [Array.getElem?_eq_none (by omega)]at h ⊢
  exact h
end
end PySem
namespace PySem
def Heap.SIt(g:Heap)(I a:Addr)(first:Value)(i n ep:Nat):Prop:=∃ob,g.get? I=some ob∧ob.cls = .type "set_iterator" ∧ ob.data = .fields #[first,.int i 0,.ref a,.int n 0,.int ep 0]
def Heap.SDt(g:Heap)(a:Addr)(xs:Array (Int×Value))(ep:Nat)(tb:SetTable):Prop:=∃ob,g.get? a=some ob∧ob.data = .set xs ep tb
section
variable{prog:Program}{w:World}{A:Around}{E:Value->Shared->Prop}{s:Shared}
theorem z1v{I a:Addr}{f:Value}{i n ep:Nat}(h:s.heap.SIt I a f i n ep):s.TypeIs (.ref I) "set_iterator" := by
 obtain⟨ob,h1,h2,_⟩:=h
 exact⟨ob,h1,h2⟩
theorem z2V{a:Addr}{xs:Array (Int×Value)}{ep:Nat}{tb:SetTable}{Q:Array (Int×Value)->Shared->Prop}(h:s.heap.SDt a xs ep tb)(hf:tb.fits xs.size=true)(q:Q xs s):wpAny (model prog w) A (setEntries a) Q E s:=by
 obtain⟨ob,g1,g3⟩:=h
 unfold setEntries
 exact wpAny_bind (wpAny_setState_of g1 g3 hf (wpAny_pure q))
theorem x0q{I a:Addr}{sl sl' i ep:Nat}{xs:Array (Int×Value)}{tb:SetTable}{x:Value}{Q:Option Value->Shared->Prop}(hit:s.heap.SIt I a (.int sl 0) i xs.size ep)(hs:s.heap.SDt a xs ep tb)(hf:tb.fits xs.size=true)
  (hn:∀(A':Around) (E':Value->Shared->Prop) (Q':Option (Value×Nat)->Shared->Prop),Q' (some (x,sl')) s->wpAny (model prog w) A' (setNext a sl i ep) Q' E' s)
  (hQ:∀g',g'.SIt I a (.int sl' 0) (i+1) xs.size ep->Heap.SameBut I s.heap g'->Q (some x) { s with heap:=g' }):wpAny (model prog w) A (pyNext (.ref I)) Q E s:=by
 obtain⟨ob,h1,h2,h3⟩:=id hit
 unfold pyNext
 refine wpAny_bind (wpAny_attempt (wpAny_callSpecial?_slot (name:=Str.ofString "__next__") (z1v hit) sl_sit_next (wpAny_call_entry sl_sit_next (z1v hit) z2X ?_ (z3l _))))
 unfold Builtin.«set_iterator.__next__»
 refine wpAny_bind (wpAny_pure ?_)
 refine wpAny_bind (wpAny_fieldsOf h1 h3 ?_)
 dsimp only
 refine wpAny_bind (z2V hs hf ?_)
 rw [if_neg (by simp)]
 refine wpAny_bind (hn _ _ _ ?_)
 dsimp only
 refine wpAny_bind (wpAny_setField h1 h3 (by simp) ?_)
 have k1:=Heap.get?_update_self (Obj.mapFields (·.setIfInBounds 0 (rawInt (sl':Int)))) h1 (Obj.isFreed_of_fields (Obj.data_mapFields h3 _))
 have k3:=Obj.data_mapFields h3 (·.setIfInBounds 0 (rawInt (sl':Int)))
 refine wpAny_bind (wpAny_setField k1 k3 (by simp) ?_)
 have m1:=Heap.get?_update_self (Obj.mapFields (·.setIfInBounds 1 (rawInt ((i:Int)+1)))) k1 (Obj.isFreed_of_fields (Obj.data_mapFields k3 _))
 have m3:=Obj.data_mapFields k3 (·.setIfInBounds 1 (rawInt ((i:Int)+1)))
 refine wpAny_pure ⟨_,rfl,wpAny_pure (hQ _ ⟨_,m1,((Obj.cls_mapFields ..).trans (Obj.cls_mapFields ..)).trans h2,?_⟩ ((Heap.SameBut.update ..).trans (Heap.SameBut.update ..)))⟩
 rw [m3]
 simp [rawInt]
theorem sit_end{I a:Addr}{sl i ep:Nat}{xs:Array (Int×Value)}{tb:SetTable}{Q:Option Value->Shared->Prop}(hh:A.handled=none)(hit:s.heap.SIt I a (.int sl 0) i xs.size ep)(hs:s.heap.SDt a xs ep tb)(hf:tb.fits xs.size=true)
  (hn:∀(A':Around) (E':Value->Shared->Prop) (Q':Option (Value×Nat)->Shared->Prop),Q' none s->wpAny (model prog w) A' (setNext a sl i ep) Q' E' s)
  (hQ:∀g',Heap.ExtBut I s.heap g'->Q none { s with heap:=g' }):wpAny (model prog w) A (pyNext (.ref I)) Q E s:=by
 obtain⟨ob,h1,h2,h3⟩:=id hit
 unfold pyNext
 refine wpAny_bind (wpAny_attempt (wpAny_callSpecial?_slot (name:=Str.ofString "__next__") (z1v hit) sl_sit_next (wpAny_call_entry sl_sit_next (z1v hit) z2X ?_ (z3l _))))
 unfold Builtin.«set_iterator.__next__»
 refine wpAny_bind (wpAny_pure ?_)
 refine wpAny_bind (wpAny_fieldsOf h1 h3 ?_)
 dsimp only
 refine wpAny_bind (z2V hs hf ?_)
 rw [if_neg (by simp)]
 refine wpAny_bind (hn _ _ _ ?_)
 dsimp only
 refine wpAny_bind (wpAny_setField h1 h3 (by simp) ?_)
 refine wpAny_bind ?_
 simp only [newExc,newTuple]
 refine wpAny_bind (wpAny_newObj_type ?_ (by size_fits))
 refine wpAny_bind (m:=firstArgMember _ _) (wpAny_of_eq (a:=Value.none) (by first | rfl | (simp only [firstArgMember];rfl)) ?_)
 refine wpAny_newObj_type ?_ (by size_fits)
 simp only [raiseNew]
 refine wpAny_bind (wpAny_handled ?_)
 rw [show A.in1.handled=none from hh]
 refine wpAny_bind (wpAny_pure (wpAny_throw ?_))
 refine wpAny_bind (wpAny_isInstance (T := "StopIteration") (b:=true) ⟨_,Heap.get?_push_size _ rfl,rfl⟩ isSubtype_stop ?_)
 exact wpAny_pure (hQ _ (((Heap.SameBut.update ..).extBut.push _).push _))
theorem y4Z{I a tp:Addr}{i ep p:Nat}{xs:Array (Int×Value)}{tb:SetTable}{ps:Array Value}{x:Int×Value}{Q:Option Value->Shared->Prop}(hit:s.heap.SIt I a (.ref tp) i xs.size ep)(hs:s.heap.SDt a xs ep tb)(hf:tb.fits xs.size=true)
  (ht:∀(A':Around) (E':Value->Shared->Prop) (Q':Option (Array Value)->Shared->Prop),Q' (some ps) s->wpAny (model prog w) A' (seqItems? (.ref tp)) Q' E' s) (hp:ps[i]? = some (.int p 0)) (hx:xs[p]? = some x)
  (hQ:∀g',g'.SIt I a (.ref tp) (i+1) xs.size ep->Heap.SameBut I s.heap g'->Q (some x.2) { s with heap:=g' }):wpAny (model prog w) A (pyNext (.ref I)) Q E s:=by
 obtain⟨ob,h1,h2,h3⟩:=id hit
 obtain⟨oa,g1,g3⟩:=id hs
 unfold pyNext
 refine wpAny_bind (wpAny_attempt (wpAny_callSpecial?_slot (name:=Str.ofString "__next__") (z1v hit) sl_sit_next (wpAny_call_entry sl_sit_next (z1v hit) z2X ?_ (z3l _))))
 unfold Builtin.«set_iterator.__next__»
 refine wpAny_bind (wpAny_pure ?_)
 refine wpAny_bind (wpAny_fieldsOf h1 h3 ?_)
 dsimp only
 refine wpAny_bind (z2V hs hf ?_)
 rw [if_neg (by simp)]
 refine wpAny_bind (ht _ _ _ ?_)
 dsimp only
 rw [cB,hp]
 dsimp only
 refine wpAny_bind ?_
 unfold setNextDrawn
 refine wpAny_bind (wpAny_setState_of g1 g3 hf ?_)
 dsimp only
 rw [if_neg (by simp),cB,hx]
 refine wpAny_pure ?_
 refine wpAny_bind (wpAny_setField h1 h3 (by simp) ?_)
 have k1:=Heap.get?_update_self (Obj.mapFields (·.setIfInBounds 1 (rawInt ((i:Int)+1)))) h1 (Obj.isFreed_of_fields (Obj.data_mapFields h3 _))
 have k3:=Obj.data_mapFields h3 (·.setIfInBounds 1 (rawInt ((i:Int)+1)))
 refine wpAny_pure ⟨_,rfl,wpAny_pure (hQ _ ⟨_,k1,(Obj.cls_mapFields ..).trans h2,?_⟩ (Heap.SameBut.update ..))⟩
 rw [k3]
 simp [rawInt]
theorem y6a{I a tp:Addr}{i ep:Nat}{xs:Array (Int×Value)}{tb:SetTable}{ps:Array Value}{Q:Option Value->Shared->Prop}(hh:A.handled=none)(hit:s.heap.SIt I a (.ref tp) i xs.size ep)(hs:s.heap.SDt a xs ep tb)(hf:tb.fits xs.size=true)
  (ht:∀(A':Around) (E':Value->Shared->Prop) (Q':Option (Array Value)->Shared->Prop),Q' (some ps) s->wpAny (model prog w) A' (seqItems? (.ref tp)) Q' E' s) (hp:ps[i]? = none)
  (hQ:∀g',Heap.ExtBut I s.heap g'->Q none { s with heap:=g' }):wpAny (model prog w) A (pyNext (.ref I)) Q E s:=by
 obtain⟨ob,h1,h2,h3⟩:=id hit
 unfold pyNext
 refine wpAny_bind (wpAny_attempt (wpAny_callSpecial?_slot (name:=Str.ofString "__next__") (z1v hit) sl_sit_next (wpAny_call_entry sl_sit_next (z1v hit) z2X ?_ (z3l _))))
 unfold Builtin.«set_iterator.__next__»
 refine wpAny_bind (wpAny_pure ?_)
 refine wpAny_bind (wpAny_fieldsOf h1 h3 ?_)
 dsimp only
 refine wpAny_bind (z2V hs hf ?_)
 rw [if_neg (by simp)]
 refine wpAny_bind (ht _ _ _ ?_)
 dsimp only
 rw [cB,hp]
 dsimp only
 refine wpAny_bind (wpAny_setField h1 h3 (by simp) ?_)
 have k1:=Heap.get?_update_self (Obj.mapFields (·.setIfInBounds 0 (rawInt 0))) h1 (Obj.isFreed_of_fields (Obj.data_mapFields h3 _))
 have k3:=Obj.data_mapFields h3 (·.setIfInBounds 0 (rawInt 0))
 refine wpAny_bind (wpAny_setField k1 k3 (by simp) ?_)
 refine wpAny_bind ?_
 simp only [newExc,newTuple]
 refine wpAny_bind (wpAny_newObj_type ?_ (by size_fits))
 refine wpAny_bind (m:=firstArgMember _ _) (wpAny_of_eq (a:=Value.none) (by first | rfl | (simp only [firstArgMember];rfl)) ?_)
 refine wpAny_newObj_type ?_ (by size_fits)
 simp only [raiseNew]
 refine wpAny_bind (wpAny_handled ?_)
 rw [show A.in1.handled=none from hh]
 refine wpAny_bind (wpAny_pure (wpAny_throw ?_))
 refine wpAny_bind (wpAny_isInstance (T := "StopIteration") (b:=true) ⟨_,Heap.get?_push_size _ rfl,rfl⟩ isSubtype_stop ?_)
 exact wpAny_pure (hQ _ ((((Heap.SameBut.update ..).trans (Heap.SameBut.update ..)).extBut.push _).push _))
end
end PySem
namespace PySem
theorem z7o:Slot "set_iterator" "__iter__" "set_iterator.__iter__" :=
 .of (owner := "set_iterator") (n := "__iter__") (by rw [typeLookup_type,builtinLookup_eq_fast];kernel_rfl) (by decide +kernel) (by decide +kernel) (by decide +kernel) (by first | exact .inl (by decide +kernel) | exact .inr (by decide +kernel)) (by rw [isSubtype_type];kernel_rfl)
theorem y1S:entryFor table "set_iterator.__iter__" = some Builtin.«dict_keyiterator.__iter__»:=entryFor_alias (id' := "dict_keyiterator.__iter__") (by kernel_rfl) rfl (by decide +kernel) (by kernel_rfl)
theorem y2G(a:Value):argsOk "set_iterator.__iter__" ⟨[a],[]⟩:=by
 unfold argsOk
 rw [signature?_of (id := "set_iterator.__iter__") (n:=['_','_','r','e','t','i','_','_']) (o:=['r','o','t','a','r','e','t','i','_','t','e','s']) (by kernel_rfl) x3e]
 kernel_rfl
section
variable{prog:Program}{w:World}{A:Around}{E:Value->Shared->Prop}{s:Shared}
theorem y4k{I a:Addr}{f:Value}{i n ep:Nat}{Q:Value->Shared->Prop}(h:s.heap.SIt I a f i n ep)(q:Q (.ref I) s):wpAny (model prog w) A (pyIter (.ref I)) Q E s:=by
 refine wpAny_pyIter_slot (z1v h) z7o (wpAny_call_entry z7o (z1v h) y1S ?_ (y2G _))
 exact wpAny_pure ⟨_,rfl, "set_iterator",_,z1v h,sl_sit_next.lookup,q⟩
theorem x3g{g g':Heap}{I a:Addr}{f:Value}{i n ep:Nat}(h:g.SIt I a f i n ep)(k:∀o,g.get? I=some o->g'.get? I=some o):g'.SIt I a f i n ep:=by
 obtain⟨ob,h1,h2⟩:=h
 exact⟨ob,k _ h1,h2⟩
theorem z8w{g g':Heap}{a:Addr}{xs:Array (Int×Value)}{ep:Nat}{tb:SetTable}(h:g.SDt a xs ep tb)(k:∀o,g.get? a=some o->g'.get? a=some o):g'.SDt a xs ep tb:=by
 obtain⟨ob,h1,h2⟩:=h
 exact⟨ob,k _ h1,h2⟩
theorem Walks.setA(hh:A.handled=none)(I a:Addr)(ne:a≠I){xs:Array (Int×Value)}{ep:Nat}{tb:SetTable}(hf:tb.fits xs.size=true)(sl:Nat->Nat)(vs:List Value)(hl:vs.length=xs.size)
  (hn:∀i,i≤xs.size->∀(s:Shared),s.heap.SDt a xs ep tb->∀(A':Around) (E':Value->Shared->Prop) (Q':Option (Value×Nat)->Shared->Prop),Q' ((vs[i]?).map fun v=>(v,sl (i+1))) s->wpAny (model prog w) A' (setNext a (sl i) i ep) Q' E' s):
  Walks prog w A I [I,a] [I] xs.size (fun i v=>vs[i]? = some v) (fun i g=>g.SIt I a (.int (sl i) 0) i xs.size ep∧g.SDt a xs ep tb) where
 sub:=fun b hb=>by simp at hb;simp [hb]
 frame:=fun _ _ _ st k=>⟨x3g st.1 fun o e=>k I (by simp) o e,z8w st.2 fun o e=>k a (by simp) o e⟩
 item:=fun i s Q E hi st hQ=>by
  obtain⟨v,hv⟩:∃v,vs[i]? = some v:=⟨vs[i],ac (by omega)⟩
  refine x0q st.1 st.2 hf (fun A' E' Q' q=>hn i (by omega) s st.2 A' E' Q' (by rw [hv];exact q)) fun g' k1 k2=>?_
  exact hQ v g' s.toks hv ⟨k1,z8w st.2 fun o e=>k2.extBut a o ne e⟩ fun b o hb e=>k2.extBut b o (fun h=>hb (by simp [h])) e
 done:=fun s Q E st hQ=>sit_end hh st.1 st.2 hf (fun A' E' Q' q=>hn xs.size (ao _) s st.2 A' E' Q' (by rw [bZ (by omega)];exact q)) fun g' k=>hQ g' s.toks fun b o hb e=>k b o (fun h=>hb (by simp [h])) e
 self:=fun _ _ _ _ st q=>y4k st.1 q
theorem Walks.setB(hh:A.handled=none)(I a tp:Addr)(ne:a≠I)(ne2:tp≠I){xs:Array (Int×Value)}{ep:Nat}{tb:SetTable}(hf:tb.fits xs.size=true)(ps:List Nat)(hl:ps.length=xs.size)(hp:∀p∈ps,p<xs.size):
  Walks prog w A I [I,a,tp] [I] xs.size (fun i v=>(ps.filterMap fun p=>(xs[p]?).map (·.2))[i]? = some v) (fun i g=>g.SIt I a (.ref tp) i xs.size ep∧g.SDt a xs ep tb∧∃ob n,g.get? tp=some ob∧ob.data = .seq (ps.map fun(p:Nat)=>Value.int p 0).toArray n) where
 sub:=fun b hb=>by simp at hb;simp [hb]
 frame:=fun _ _ _ st k=>⟨x3g st.1 fun o e=>k I (by simp) o e,z8w st.2.1 fun o e=>k a (by simp) o e,by
  obtain⟨ob,n,e1,e2⟩:=st.2.2
  exact⟨ob,n,k tp (by simp) _ e1,e2⟩⟩
 item:=fun i s Q E hi st hQ=>by
  obtain⟨ob,n,e1,e2⟩:=st.2.2
  have hi':i<ps.length:=by omega
  have hpi:=hp ps[i] (aR hi')
  refine y4Z (p:=ps[i]) (x:=xs[ps[i]]) st.1 st.2.1 hf (fun A' E' Q' q=>wpAny_seqItems e1 e2 q) (by simp [hi']) (aS hpi) fun g' k1 k2=>?_
  refine hQ _ g' s.toks ?_ ⟨k1,z8w st.2.1 fun o e=>k2.extBut a o ne e,ob,n,k2.extBut tp ob ne2 e1,e2⟩ fun b o hb e=>k2.extBut b o (fun h=>hb (by simp [h])) e
  have em:(ps.filterMap fun p=>(xs[p]?).map (·.2))=ps.map fun p=>(xs[p]?.map (·.2)).getD .none:=by
   have gen:∀l:List Nat,(∀p∈l,p<xs.size)->(l.filterMap fun p=>(xs[p]?).map (·.2))=l.map fun p=>(xs[p]?.map (·.2)).getD .none:=fun l=>by
    induction l with
    |nil=>exact fun _=>rfl
    |cons p l ih=>
     intro h
     rw [bT,aG,aS (h p ah),ih fun q hq=>h q (ag _ hq)]
     rfl
   exact gen ps hp
  rw [em,aN,ac hi',bH,aS hpi]
  rfl
 done:=fun s Q E st hQ=>by
  obtain⟨ob,n,e1,e2⟩:=st.2.2
  exact y6a hh st.1 st.2.1 hf (fun A' E' Q' q=>wpAny_seqItems e1 e2 q) (by simp;omega) fun g' k=>hQ g' s.toks fun b o hb e=>k b o (fun h=>hb (by simp [h])) e
 self:=fun _ _ _ _ st q=>y4k st.1 q
end
end PySem
namespace PySem
open Sem (wp)
theorem y4L:typeLookup (.type "set") "__len__" = pure (some (.builtin "set.__len__")):=by rw [typeLookup_type,builtinLookup_eq_fast];kernel_rfl
section
variable{K:Type}[DecidableEq K]{prog:Program}{w:World}{knd:KeyKind prog w K}{A:Around}{E:Value->Shared->Prop}{s:Shared}
theorem z6L{a:Addr}{S:K->Bool}{n:Nat}(h:s.heap.SetW knd a S n):s.TypeIs (.ref a) "set" := by
 obtain⟨ob,xs,ep,tb,g1,g2,_⟩:=h
 exact⟨ob,g1,g2.1⟩
theorem y7F{g g':Heap}{a:Addr}{S:K->Bool}{n:Nat}(h:g.SetW knd a S n)(k:∀o,g.get? a=some o->g'.get? a=some o):g'.SetW knd a S n:=by
 obtain⟨ob,xs,ep,tb,g1,r⟩:=h
 exact⟨ob,xs,ep,tb,k _ g1,r⟩
theorem x0F{a:Addr}{S:K->Bool}{n:Nat}{Q:Value->Shared->Prop}(hS:s.heap.SetW knd a S n)
  (hQ:∀(g:Heap) (dr:Drawn) (I:Addr) (fp:List Addr) (vs:List Value) (St:Nat->Heap->Prop),(∀b o,s.heap.get? b=some o->g.get? b=some o)->s.heap.objs.size≤I->(∀b∈fp,b=a∨s.heap.objs.size≤b) →
   (∀A':Around,A'.handled=none->Walks prog w A' I fp [I] n (fun i v=>vs[i]? = some v) St)->St 0 g->vs.length=n->(∀k,S k=true↔∃v∈vs,knd.is k v=true)->(∀v∈vs,∃k,knd.is k v=true)->Q (.ref I) { s with heap:=g,drawn:=dr }):
  wpAny (model prog w) A (pyIter (.ref a)) Q E s:=by
 have hT:=z6L hS
 obtain⟨ob,xs,ep,tb,g1,g2,g3,g4,g5,g6,g7,g8,g9⟩:=hS
 have hlt:(a:Nat)<s.heap.objs.size:=Heap.lt_size g1
 have sd:s.heap.SDt a xs ep tb:=⟨ob,g1,g3⟩
 have mem:∀vs:List Value,vs.Perm (xs.toList.map (·.2))->vs.length=n∧(∀k,S k=true↔∃v∈vs,knd.is k v=true)∧∀v∈vs,∃k,knd.is k v=true:=fun vs hp=>by
  refine⟨by rw [hp.length_eq];simpa using g8,fun k=>?_,fun v hv=>?_⟩
  ·rw [g5 k]
   constructor
   ·rintro⟨e,he,q⟩
    exact⟨e.2,hp.mem_iff.mpr (List.mem_map_of_mem he),q⟩
   ·rintro⟨v,hv,q⟩
    obtain⟨e,he,rfl⟩:=aK.mp (hp.mem_iff.mp hv)
    exact⟨e,he,q⟩
  ·obtain⟨e,he,rfl⟩:=aK.mp (hp.mem_iff.mp hv)
   obtain⟨⟨k,q,_⟩,_⟩:=g4 e he
   exact⟨k,q⟩
 refine wpAny_pyIter_slot hT F.slot_set_iter (wpAny_call_entry F.slot_set_iter hT y2P ?_ (F.args_set_iter_1 _))
 unfold Builtin.«frozenset.__iter__»
 refine wpAny_bind (m:=Builtin.Frozenset.slot0 "__iter__" _) (wpAny_bind (wpAny_pure (wpAny_pure ?_)))
 refine wpAny_bind (m:=Builtin.Frozenset.sizeOf a) (wpAny_bind (z2V sd g7 (wpAny_pure ?_)))
 refine wpAny_bind ?_
 unfold setDrawn
 refine wpAny_bind (wpAny_setState_of g1 g3 g7 ?_)
 dsimp only
 unfold setsByText
 refine wpAny_bind (wpAny_bind (wpAny_askSetting (wpAny_pure ?_)))
 refine wpAny_pure ?_
 show wpAny _ _ (if(!w.params.followText "set-order" && (!tb.plain&&decide (xs.size>1)))=true then _ else _) _ _ s
 have plainCase:∀(sl:Nat->Nat) (vs:List Value),sl 0=0->vs.Perm (xs.toList.map (·.2)) →
   (∀i,i≤xs.size->∀(s:Shared),s.heap.SDt a xs ep tb->∀(A':Around) (E':Value->Shared->Prop) (Q':Option (Value×Nat)->Shared->Prop),Q' ((vs[i]?).map fun v=>(v,sl (i+1))) s->wpAny (model prog w) A' (setNext a (sl i) i ep) Q' E' s) →
   Q (.ref s.heap.objs.size) { s with heap:=s.heap.push { cls:=.type "set_iterator",data:=.fields #[.int 0 0,.int 0 0,.ref a,.int xs.size 0,.int ep 0] } }:=fun sl vs h0 hp hn=>by
  obtain⟨z1,z2,z3⟩:=mem vs hp
  have ne:a≠s.heap.objs.size:=aC hlt
  refine hQ _ s.drawn s.heap.objs.size [s.heap.objs.size,a] vs (fun i g=>g.SIt s.heap.objs.size a (.int (sl i) 0) i xs.size ep∧g.SDt a xs ep tb) (fun b o e=>Heap.get?_push_of_some _ e) (ao _) (fun b hb=>?_) (fun A' hh=>?_) ?_ z1 z2 z3
  ·rcases ai.mp hb with z | z
   ·exact .inr (ft z.symm)
   ·exact .inl (ax.mp z)
  ·have W:=Walks.setA (prog:=prog) (w:=w) (A:=A') hh s.heap.objs.size a ne g7 sl vs (by omega) hn
   rw [g8]at W ⊢
   exact W
  ·refine⟨⟨_,Heap.get?_push_size _ rfl,rfl,?_⟩,z8w sd fun o e=>Heap.get?_push_of_some _ e⟩
   rw [h0]
   rfl
 by_cases ht:w.params.followText "set-order" = true
 ·rw [if_neg (by rw [ht];simp)]
  refine wpAny_bind (wpAny_pure ?_)
  refine wpAny_bind (wpAny_setEpoch_of g1 g3 g7 ?_)
  refine wpAny_bind (wpAny_newObj_type (wpAny_pure ⟨_,rfl, "set_iterator",_,⟨_,Heap.get?_push_size _ rfl,rfl⟩,sl_sit_next.lookup,?_⟩))
  refine plainCase (fun _=>0) ((pickOrder (w.params.setOrder a ep) xs).toList.map (·.2)) rfl ((y4F _ xs).map _) fun i hi s' sd' A' E' Q' q=>?_
  obtain⟨o',e1,e3⟩:=sd'
  refine y7i e1 e3 g7 ht ?_
  rw [aN,cE,Option.map_map]at q
  exact q
 ·have ht:w.params.followText "set-order" = false:=by simpa using ht
  have ti:TI tb:=g9.resolve_left (by rw [ht];exact ar)
  cases hd:(!tb.plain&&decide (xs.size>1))with
  |false=>
   rw [if_neg (by simp)]
   have hu:SetTable.Up tb.place:=by
    have hp:tb.place.size=xs.size:=by
     unfold SetTable.fits at g7
     rw [aH]at g7
     exact eq_of_beq g7.1
    cases hpl:tb.plain with
    |true=>exact ti.2 hpl
    |false=>
     rw [hpl]at hd
     have h1:¬ xs.size>1:=by simpa using hd
     unfold SetTable.Up
     have h2:tb.place.toList.length≤1:=by simp;omega
     match hl:tb.place.toList with
     |[]=>exact .nil
     |[x]=>exact List.pairwise_singleton _ _
     |_::_::_=>rw [hl]at h2;simp at h2
   refine wpAny_bind (wpAny_pure ?_)
   refine wpAny_bind (wpAny_setEpoch_of g1 g3 g7 ?_)
   refine wpAny_bind (wpAny_newObj_type (wpAny_pure ⟨_,rfl, "set_iterator",_,⟨_,Heap.get?_push_size _ rfl,rfl⟩,sl_sit_next.lookup,?_⟩))
   refine plainCase (slP tb) (xs.toList.map (·.2)) rfl (.refl _) fun i hi s' sd' A' E' Q' q=>?_
   obtain⟨o',e1,e3⟩:=sd'
   refine y4E e1 e3 g7 ht hd ti.1 hu hi ?_
   rw [aN,cE,Option.map_map]at q
   exact q
  |true=>
   rw [if_pos (by rw [ht];rfl)]
   refine wpAny_bind (z7v xs.size (ad xs.size) s (by simp) fun ys dr hp=>?_)
   refine wpAny_bind (wpAny_newObj_type ?_ ?_)
   ·have e1:({ s with drawn:=dr,heap:=s.heap.push { cls:=.type "tuple",data:=.seq (ys.map fun(i:Nat)=>rawInt i).toArray } }:Shared).heap.get? a=some ob:=Heap.get?_push_of_some _ g1
    refine wpAny_bind (wpAny_setEpoch_of e1 g3 g7 ?_)
    refine wpAny_bind (wpAny_newObj_type (wpAny_pure ⟨_,rfl, "set_iterator",_,⟨_,Heap.get?_push_size _ rfl,rfl⟩,sl_sit_next.lookup,?_⟩))
    obtain⟨gT,eT⟩:∃gT:Heap,gT=s.heap.push { cls:=.type "tuple",data:=.seq (ys.map fun(i:Nat)=>rawInt i).toArray }:=⟨_,rfl⟩
    have sT:gT.objs.size=s.heap.objs.size+1:=by rw [eT];exact Heap.size_push ..
    have oT:gT.get? s.heap.objs.size=some { cls:=.type "tuple",data:=.seq (ys.map fun(i:Nat)=>rawInt i).toArray }:=by rw [eT];exact Heap.get?_push_size _ rfl
    have old:∀b o,s.heap.get? b=some o->gT.get? b=some o:=fun b o e=>by rw [eT];exact Heap.get?_push_of_some _ e
    have hyl:ys.length=xs.size:=by simpa using hp.length_eq
    have hyp:∀p∈ys,p<xs.size:=fun p hp'=>ae.mp (hp.mem_iff.mp hp')
    have hvp:(ys.filterMap fun p=>(xs[p]?).map (·.2)).Perm (xs.toList.map (·.2)):=by
     refine(hp.filterMap _).trans ?_
     rw [←filterMap_getElem?_range xs,List.map_filterMap]
    obtain⟨z1,z2,z3⟩:=mem _ hvp
    have ne:a≠gT.objs.size:=aC (by rw [sT];exact bI hlt)
    have ne2:s.heap.objs.size≠gT.objs.size:=aC (by rw [sT];exact c7 _)
    rw [←eT]
    refine hQ _ dr gT.objs.size [gT.objs.size,a,s.heap.objs.size] (ys.filterMap fun p=>(xs[p]?).map (·.2)) (fun i g=>g.SIt gT.objs.size a (.ref s.heap.objs.size) i xs.size ep∧g.SDt a xs ep tb∧∃ob n,g.get? s.heap.objs.size=some ob∧ob.data = .seq (ys.map fun(p:Nat)=>Value.int p 0).toArray n) (fun b o e=>Heap.get?_push_of_some _ (old b o e)) (by rw [sT];exact cN _) (fun b hb=>?_) (fun A' hh=>?_) ?_ z1 z2 z3
    ·simp only [ai,bq,or_false]at hb
     rcases hb with z | z | z
     ·exact .inr (by rw [z,sT];exact cN _)
     ·exact .inl z
     ·exact .inr (ft z.symm)
    ·have W:=Walks.setB (ep:=ep) (prog:=prog) (w:=w) (A:=A') hh gT.objs.size a s.heap.objs.size ne ne2 g7 ys hyl hyp
     rw [g8]at W ⊢
     exact W
    ·exact⟨⟨_,Heap.get?_push_size _ rfl,rfl,rfl⟩,z8w sd fun o e=>Heap.get?_push_of_some _ (old a o e),_,_,Heap.get?_push_of_some _ oT,rfl⟩
   ·show(ys.map fun(i:Nat)=>rawInt i).toArray.size≤sizeLine
    have hyl:ys.length=xs.size:=by simpa using hp.length_eq
    have:scanBound≤sizeLine:=by rw [sizeLine_eq];decide
    simp
    omega
theorem y1P{a:Addr}{S:K->Bool}{n:Nat}{Q:List Value->Shared->Prop}(hh:A.in1.handled=none)(hS:s.heap.SetW knd a S n)(hn:n≤sizeLine)
  (fin:∀(g:Heap) (dr:Drawn) (tk:Nat) (acc:List Value),(∀b o,s.heap.get? b=some o->g.get? b=some o)->acc.length=n->(∀k,S k=true↔∃v∈acc,knd.is k v=true)->(∀v∈acc,∃k,knd.is k v=true)->Q acc { s with heap:=g,drawn:=dr,toks:=tk }):wpAny (model prog w) A (collect (.ref a)) Q E s:=by
 have hlt:(a:Nat)<s.heap.objs.size:=by
  obtain⟨ob,xs,ep,tb,g1,_⟩:=hS
  exact Heap.lt_size g1
 have hSa:s.heap.objs.size≠a:=fun e=>bN _ (e ▸ hlt)
 unfold collect
 refine wpAny_bind (wpAny_runValue (codeAny_builtin F.entry_proto_collect ?_))
 rw [Around.under_plainId F.plain_proto_collect _]
 show wpAny _ A.in1 (newList [] >>= fun l=>again (.builtin "list.__iadd__" ⟨[l,.ref a],[]⟩)) _ _ s
 refine wpAny_bind (wpAny_newObj_type ?_)
 refine wpAny_pure ⟨plainId_quiet F.plain_list_iadd _,codeAny_builtin F.entry_list_iadd ?_⟩
 rw [Around.under_plainId F.plain_list_iadd _]
 obtain⟨gA,eA⟩:∃gA:Heap,gA=s.heap.push { cls:=.type "list",data:=.seq ([]:List Value).toArray }:=⟨_,rfl⟩
 have sA:gA.objs.size=s.heap.objs.size+1:=by rw [eA];exact Heap.size_push ..
 rw [←eA]
 have w1:gA.SetW knd a S n:=y7F hS fun o e=>by rw [eA];exact Heap.get?_push_of_some _ e
 have t1:({ s with heap:=gA }:Shared).TypeIs (.ref a) "set" := z6L w1
 have f1:Builtin.List.listSameRef (.ref s.heap.objs.size) (.ref a)=false:=by simp [Builtin.List.listSameRef,hSa]
 have oA:gA.get? s.heap.objs.size=some { cls:=.type "list",data:=.seq ([]:List Value).toArray }:=by rw [eA];exact Heap.get?_push_size _ rfl
 show wpAny _ A.in1 (Builtin.List.listExtendWith (.ref s.heap.objs.size) (.ref a) (.ref s.heap.objs.size)) _ _ _
 unfold Builtin.List.listExtendWith
 refine wpAny_bind (wpAny_typeOf t1 ?_)
 rw [if_neg (by rw [f1];decide)]
 refine wpAny_bind (x0F (s:={ s with heap:=gA }) w1 fun gB dr I fp vs St kB hI hfp W0 st0 z1 z2 z3=>?_)
 refine wpAny_bind (wpAny_holding ?_)
 unfold Builtin.List.listLengthHint
 have t2:({ s with heap:=gB,drawn:=dr }:Shared).TypeIs (.ref a) "set" := z6L (y7F w1 fun o e=>kB a o e)
 refine wpAny_bind (wpAny_specialOf t2 y4L ?_)
 (generalize hid:("set.__len__" : String)=id0;(fail_if_success (clear hid id0));wp_delta;rw [show splitId id0=some ("set", "__len__") from by subst hid;decide +kernel];subst hid)
 refine wpAny_bind (wpAny_isInstance (b:=true) t2 (by rw [isSubtype_type];kernel_rfl) ?_)
 show wpAny _ A.in1 (typeOf (Value.ref a) >>= _) _ _ _
 refine wpAny_bind (wpAny_typeOf t2 ?_)
 refine wpAny_pure ?_
 show wpAny _ A.in1 (rule "list.extend.makes-room" >>= fun _=>Builtin.List.listTouch (.ref s.heap.objs.size) >>= fun _=>again (.builtin "list.extend.loop" ⟨[.ref s.heap.objs.size,.ref I,.ref s.heap.objs.size],[]⟩)) _ _ _
 refine wpAny_bind (wpAny_rule ?_)
 have W:=(W0 A.in1 hh).toS
 have oB:gB.get? s.heap.objs.size=some { cls:=.type "list",data:=.seq ([]:List Value).toArray }:=kB _ _ oA
 have hSf:s.heap.objs.size∉fp:=fun z=>by
  rcases hfp _ z with q | q
  ·exact hSa q
  ·rw [sA]at q
   exact absurd q (Nat.not_succ_le_self _)
 refine wpAny_bind ?_
 show wpAny _ A.in1 (updateSeq s.heap.objs.size (·.push .none) >>= fun _=>updateSeq s.heap.objs.size (·.pop)) _ _ _
 refine wpAny_bind (wpAny_updateSeq oB rfl ?_)
 have oC:=Heap.get?_update_self (Obj.mapSeq (·.push Value.none)) oB rfl
 refine wpAny_updateSeq oC rfl ?_
 have oD:=Heap.get?_update_self (Obj.mapSeq (·.pop)) oC rfl
 have oth:∀b o,b≠s.heap.objs.size->gB.get? b=some o->((gB.update s.heap.objs.size (Obj.mapSeq (·.push Value.none))).update s.heap.objs.size (Obj.mapSeq (·.pop))).get? b=some o:=fun b o hb e=>(Heap.get?_update_other _ _ (Ne.symm hb)).trans ((Heap.get?_update_other _ _ (Ne.symm hb)).trans e)
 refine wpAny_pure ⟨plainId_quiet F.plain_extend_loop _,codeAny_extend_loopS W hn _ hSf _ n 0 _ _ _ rfl (bX _) (W.frame 0 ({ s with heap:=gB,drawn:=dr }:Shared) _ s.toks st0 (ao _) fun b hb o e=>oth b o (fun h=>hSf (h ▸ hb)) e) oD (ItemsOf.nil _) fun s' acc c' mv hS' hacc=>?_⟩
 show wpAny _ A (load s.heap.objs.size >>= _) _ _ s'
 refine wpAny_bind (wpAny_load hS' ?_)
 have ea:acc.toList=vs:=by
  apply List.ext_getElem?
  intro i
  by_cases hi:i<n
  ·have hi':i<acc.size:=by rw [hacc.1];exact hi
   have:=hacc.2 i acc[i] (aS hi')
   rw [this,cE,aS hi']
  ·rw [bZ (by rw [b9,hacc.1];omega),bZ (by omega)]
 obtain⟨g',gs,dr',tk',os'⟩:=s'
 have eg:gs=s.gens:=mv.gens
 have eo:os'=s.os:=mv.os
 subst eg;subst eo
 refine wpAny_pure ?_
 refine fin g' dr' tk' acc.toList (fun b o e=>?_) (by rw [ea];exact z1) (by rw [ea];exact z2) (by rw [ea];exact z3)
 have hb:(b:Nat)<s.heap.objs.size:=Heap.lt_size e
 refine mv.heap b o (fun z=>?_) (oth b o (aC hb) (kB b o (by rw [eA];exact Heap.get?_push_of_some _ e)))
 rcases ai.mp z with z | z
 ·exact aC hb z
 ·rw [ax]at z
  rw [z]at hb
  rw [sA]at hI
  exact absurd (aM hb (b8 hI)) (bN _)
end
end PySem
namespace L2
open PySem PySem.Spec PyProof.Rows
def ddI(ns:List Int):List Int:=ns.foldl (fun acc n=>if acc.any (· == n)then acc else acc++[n]) []
theorem x1O(ns:List Int):firstMet (fun i=>ns.getD i 0) ns.length=ddI ns:=by
 unfold firstMet ddI
 have e:(ad ns.length).map (fun i=>ns.getD i 0)=ns:=by
  apply bb
  ·simp
  ·intro i h1 h2
   simp [aJ,ac h2]
 rw [e]
 rfl
theorem z9Y:∀(ns acc:List Int),acc.Nodup->(ns.foldl (fun acc n=>if acc.any (· == n)then acc else acc++[n]) acc).Nodup∧∀x,x∈ns.foldl (fun acc n=>if acc.any (· == n)then acc else acc++[n]) acc↔x∈acc∨x∈ns
 |[],acc,h=>⟨h,fun x=>by simp⟩
 |n::ns,acc,h=>by
  rw [List.foldl_cons]
  by_cases hn:acc.any (· == n)=true
  ·rw [if_pos hn]
   obtain⟨a,b⟩:=z9Y ns acc h
   refine⟨a,fun x=>?_⟩
   rw [b x,ai]
   have:n∈acc:=by simpa using hn
   constructor
   ·rintro (z | z)
    ·exact .inl z
    ·exact .inr (.inr z)
   ·rintro (z | z | z)
    ·exact .inl z
    ·exact .inl (z ▸ this)
    ·exact .inr z
  ·rw [if_neg hn]
   have hn':n∉acc:=by simpa using hn
   obtain⟨a,b⟩:=z9Y ns (acc++[n]) (bf.mpr ⟨h,by simp,fun x hx y hy z=>by rw [ax]at hy;subst hy;exact hn' (z ▸ hx)⟩)
   refine⟨a,fun x=>?_⟩
   rw [b x,ay,ax,ai,or_assoc]
theorem z8F(ns:List Int):(ddI ns).Nodup:=(z9Y ns [] bi).1
theorem dd_mem{ns:List Int}{x:Int}:x∈ddI ns↔x∈ns:=by
 have:=(z9Y ns [] bi).2 x
 unfold ddI
 rw [this]
 simp
theorem z6J:∀{l o:List Int},l.Nodup->(∀x∈l,x∈o)->l.length=o.length->l.Perm o
 |[],o,_,_,h=>by
  have:o=[]:=dZ (by simpa using h.symm)
  rw [this]
 |x::l,o,nd,sub,h=>by
  have hx:=sub x ah
  have nd':=av.mp nd
  have p:=dq hx
  have hl:(o.erase x).length+1=o.length:=by
   have:=p.length_eq
   simpa using this.symm
  refine((z6J nd'.2 (fun y hy=>?_) (by simp at h;omega)).cons x).trans p.symm
  have hy':=p.mem_iff.mp (sub y (ag _ hy))
  rcases ai.mp hy' with z | z
  ·exact absurd (z ▸ hy) nd'.1
  ·exact z
theorem y0X{prog:Program}{w:World}:∀{vs:List Value},(∀v∈vs,∃k,(intKind prog w).is k v=true)->∃ms:List Int,IntsAre vs ms∧∀k,k∈ms↔∃v∈vs,(intKind prog w).is k v=true
 |[],_=>⟨[],.nil,fun k=>by simp⟩
 |v::vs,h=>by
  obtain⟨ms,h1,h2⟩:=y0X (prog:=prog) (w:=w) fun u hu=>h u (ag _ hu)
  obtain⟨k,hk⟩:=h v ah
  obtain⟨t,rfl⟩:=Value.isInt_shape (show Value.isInt k v=true from hk)
  refine⟨k::ms,.cons k t h1,fun k'=>?_⟩
  rw [ai,h2 k']
  constructor
  ·rintro (z | ⟨u,hu,q⟩)
   ·exact⟨_,ah,z ▸ hk⟩
   ·exact⟨u,ag _ hu,q⟩
  ·rintro⟨u,hu,q⟩
   rcases ai.mp hu with z | z
   ·subst z
    exact .inl ((intKind prog w).inj _ _ _ q hk)
   ·exact .inr ⟨u,z,q⟩
section
variable{prog:Program}{w:World}{A:Around}{E:Value->Shared->Prop}{s:Shared}
theorem y1R{a:Addr}{ns:List Int}{Q:Value->Shared->Prop}(hh:A.handled=none)(hS:s.heap.SetW (intKind prog w) a (fun z=>(ddI ns).any (· == z)) (ddI ns).length)(h64:(ddI ns).length<64)
  (h:∀(g1 g':Heap) (dr:Drawn) (tk:Nat) (out:List Value) (e:Nat),(∀b o',s.heap.get? b=some o'->g1.get? b=some o')->(∀b o',g1.get? b=some o'->g'.get? b=some o')->g'.get? g1.objs.size=some { cls:=.type "list",data:=.seq out.toArray e }->IntsAre out (z6m (ddI ns))->Q (.ref g1.objs.size) { s with heap:=g',drawn:=dr,toks:=tk }):
  wpAny (model prog w) A (call (.builtin "sorted") [.ref a]) Q E s:=by
 refine Calls.call_function_entry kind_sorted plain_sorted entry_sorted (args_sorted1 _) ?_
 unfold Builtin.«sorted»
 refine wpAny_bind (m:=checkCount "sorted" 1 1 _) (wpAny_pure ?_)
 refine wpAny_bind (y1P hh hS (by rw [sizeLine_eq];omega) fun g1 dr tk acc k1 z1 z2 z3=>?_)
 obtain⟨ms,i1,i2⟩:=y0X z3
 have hml:ms.length=acc.length:=i1.length.symm
 have pm:ms.Perm (ddI ns):=by
  refine(z6J (z8F ns) (fun x hx=>?_) (by omega)).symm
  rw [i2 x,←z2 x]
  simpa using hx
 refine wpAny_bind (wpAny_newList ?_)
 have oL:(g1.push (seqObj "list" acc.toArray 0)).get? g1.objs.size=some (seqObj "list" acc.toArray 0):=Heap.get?_push_size _ rfl
 show wpAny _ _ _ _ _ { s with heap:=g1.push (seqObj "list" acc.toArray 0),drawn:=dr,toks:=tk }
 refine wpAny_bind (wpAny_holding (wpAny_call_entry slot_list_sort ⟨_,oL,rfl⟩ entry_list_sort (list_sort_tree oL i1 (by omega) fun out ns' a1 a2 a3=>⟨_,rfl,?_⟩) (args_list_sort _)))
 obtain⟨e,he⟩:=sortedHeap_at (out:=out) oL
 have es:=z5C (a2.trans pm) a3
 subst es
 refine wpAny_pure ⟨_,rfl,h g1 _ dr tk out.toList e k1 (fun b o' hb=>?_) (by simpa [seqObj] using he) a1⟩
 have hlt:b<g1.objs.size:=Heap.lt_size hb
 rw [sortedHeap_old (aC hlt) (by rw [size_push'];exact bI hlt)]
 exact Heap.get?_push_of_some _ hb
end
section
variable{X:Cx}{e:Expr}{te:TE}{p p' pos pos':Pos}
theorem Inv.draw{pins:List (Addr×Obj)}{σ:List (Option V)}{H:Hp}{s:Shared}(I:Inv X pins σ H s)(dr:Drawn):Inv X pins σ H { s with drawn:=dr }:=⟨I.ok,I.os,I.bare,I.base,I.loc,I.cell,I.free,I.freeC,I.pin,I.hok,I.len⟩
theorem x0u:bootBuiltins "set" = some (.type "set"):=by kernel_rfl
def tSS(K:aa)(te:TE):TE:=fun σ H Q=>te σ H fun x H1=>∃(q:Addr) (ns:List Int),x = .ref q∧SqL K H1 q (ns.map V.int)∧(ns.length≤1000∧(ddI ns).length<64)∧∀l,H1 l=none->Q (.ref l) (upd H1 l (.lst ((z6m (ddI ns)).map V.int)))
theorem y4D(hc:X.calm=true)(hg:Gl X "sorted")(hm:X.mg "sorted" = none)(hg':Gl X "set")(hm':X.mg "set" = none)(ha:PE X e te)
  (he:starEach [e] X.env=[(false,eval e X.env)]:=by rfl) (he':starEach [.Call (.Name "set" p') [e] [] pos'] X.env=[(false,eval (.Call (.Name "set" p') [e] [] pos') X.env)]:=by rfl):
  PE X (.Call (.Name "sorted" p) [.Call (.Name "set" p') [e] [] pos'] [] pos) (tSS X.K te):=by
 intro pins s σ H Q I h
 refine wpAny_Call_Name_kw (z4r I hg hm boot_sorted ?_)
 refine callWith_builtin1 ?_ he' rfl
 rw [he']
 show wpAny _ _ (spliced [(false,eval (.Call (.Name "set" p') [e] [] pos') X.env)]) _ _ s
 refine Calls.spliced_cons ?_
 refine wpAny_Call_Name_kw (z4r I hg' hm' x0u ?_)
 refine callWith_type1 ?_ he rfl
 rw [he]
 show wpAny _ _ (spliced [(false,eval e X.env)]) _ _ s
 refine Calls.spliced_cons (thn (ha pins s σ H _ I h) fun u s1 ⟨x,H1,I1,r1,q1⟩=>?_)
 refine Calls.spliced_nil ?_
 obtain⟨q,ns,rfl,hq,h64,k⟩:=q1
 cases r1
 obtain⟨its,rv,pl,hz⟩:=I1.list hq
 have hi:=z4k rv
 have hlen:its.length=ns.length:=by have:=rv.length;simpa using this.symm
 refine y8b (I1.ok.hd hc) pl.isList hi (by have:=h64.1;simp;unfold scanBound;omega) fun g' tk w1 w2=>?_
 refine Calls.spliced_nil ?_
 have esz:its.toArray.size=ns.length:=by simpa using hlen
 rw [esz,x1O]at w1
 have I2:Inv X pins σ H1 { s1 with heap:=g',toks:=tk }:=I1.kept fun b o e=>w2 b o (Heap.lt_size e) e
 refine y1R (I2.ok.hd hc) w1 h64.2 fun g1 g2 dr tk' out e k1 k2 ho ho2=>?_
 have I3:Inv X pins σ H1 { s1 with heap:=g1,toks:=tk,drawn:=dr }:=(I2.kept (t':=tk) k1).draw dr
 refine⟨.ref g1.objs.size,_,Inv.laid (s:={ s1 with heap:=g1,toks:=tk,drawn:=dr }) (t':=tk') I3 k2 (ao _) (show ObjOk X.prog X.w _ g2 _ (.lst ((z6m (ddI ns)).map V.int)) from⟨?_,out,e,x1b ho2,ho⟩),rfl,k _ (I3.hok.fresh (ao _))⟩
 have:=(z6H (ddI ns)).length_eq
 have:=h64.2
 rw [am,sizeLine_eq]
 omega
def y0F:D->Option (List D)
 |.lst ds=>(z1A ds).bind fun ns=>if ns.length≤1000∧(ddI ns).length<64 then some ((z6m (ddI ns)).map .int)else none
 |_=>none
def y4B(f:DE):DS->Option (List D):=fun δ=>(f δ).bind y0F
variable{f:DE}
theorem y5a(hc:X.calm=true)(hg:Gl X "sorted")(hm:X.mg "sorted" = none)(hg':Gl X "set")(hm':X.mg "set" = none)(ha:PD X e f)
  (he:starEach [e] X.env=[(false,eval e X.env)]:=by rfl) (he':starEach [.Call (.Name "set" p') [e] [] pos'] X.env=[(false,eval (.Call (.Name "set" p') [e] [] pos') X.env)]:=by rfl):
  PF X (.Call (.Name "sorted" p) [.Call (.Name "set" p') [e] [] pos'] [] pos) (y4B f):=(y4D hc hg hm hg' hm' ha he he').imp fun σ H Q ⟨B,δ,ds',hB,S,q,k⟩=>by
 unfold y4B at q
 cases e1:f δ with
 |none=>rw [e1]at q;cases q
 |some d=>
 rw [e1,aq]at q
 refine⟨B,δ,d,hB,S,e1,fun v H1 s1 r1=>?_⟩
 unfold y0F at q
 split at q
 ·rename_i es
  cases e2:z1A es with
  |none=>rw [e2]at q;cases q
  |some ns=>
   rw [e2,aq]at q
   split at q
   ·rename_i h64
    cases q
    unfold Rep at r1
    obtain⟨a,xs,rfl,_,h,rs⟩:=r1
    rw [z3P e2 rs]at h
    exact⟨a,ns,rfl,SqL.of h,h64,fun l hl=>k l _ _ (s1.trans (z0n hl)) (s1.free hl) z0m (z1K _)⟩
   ·cases q
 ·cases q
end
end L2
namespace L2
open PySem PySem.Spec PyProof.Rows
section
variable{X:Cx}{a b:Expr}{pos:Pos}{f g:DE}
end
end L2
namespace L2
open PySem PySem.Spec PyProof.Rows
section
variable{X:Cx}{e:Expr}{p p2 pos:Pos}
end
end L2
namespace L2
open PySem PySem.Spec PyProof.Rows
section
variable{X:Cx}{e:Expr}{te:TE}{p p' pos pos':Pos}
variable{f:DE}
end
end L2
namespace L2
open PySem PySem.Spec PyProof.Rows
section
variable{X:Cx}{a b:Expr}{pos:Pos}{f g:DE}
end
end L2
namespace L2
open PySem PySem.Spec PyProof.Rows
section
variable{X:Cx}{c:Expr}{a b:List Stmt}{p2 pos:Pos}{H0:Hp}{B0:Addr->Prop}{fr:Bool}{RX:XR}{F:DS->Option XO}{g h:SS->Option Out}
end
end L2
namespace L2
open PySem PySem.Spec PyProof.Rows
section
variable{X:Cx}{x:Str}{C:Addr}{np cpos:Pos}{e₀:Expr}{te:TE}{f:DE}
end
end L2
namespace L2
open PySem PySem.Spec PyProof.Rows
section
variable{X:Cx}{pos:Pos}{H0:Hp}{B0:Addr->Prop}{fr:Bool}{RX:XR}{F:DS->Option XO}
end
end L2
namespace L2
open PySem PySem.Spec PyProof.Rows
section
variable{P:Program}{w:World}{K:aa}{mg:Str->Option Value}{base:Heap}
end
section
variable{X:Cx}{k:Nat}{x:Str}{p pos:Pos}{e e':Expr}{es:List Expr}
variable{H0:Hp}{B0:Addr->Prop}{RX:XR}{a:Expr}{pos':Pos}
end
end L2
namespace L2
open PySem PySem.Spec PyProof.Rows
section
variable{K:aa}{H0 H:Hp}{B0:Addr->Prop}{σ:St}{δ:SS}{R:Nat->List Addr}
def givS(i j:Nat)(d:D)(δ:SS):SS:=((z0z i (z0z j δ)).set j none).set i (some (.ow d))
theorem z9H{i j k:Nat}{d:D}{x:SD}(h:(givS i j d δ)[k]? = some (some x)):(k=i∧x = .ow d)∨(k≠i∧k≠j∧δ[k]? = some (some x)∧(∀d,x≠.bo i d)∧∀d,x≠.bo j d):=by
 unfold givS at h
 rcases z1D h with⟨e,q,hl⟩ | ⟨hk,q⟩
 ·cases q
  exact .inl ⟨e,rfl⟩
 ·rcases z1D q with⟨e,q',_⟩ | ⟨hj,q'⟩
  ·cases q'
  ·obtain⟨q1,n1⟩:=z2g q'
   obtain⟨q2,n2⟩:=z2g q1
   exact .inr ⟨hk,hj,q2,n1,n2⟩
theorem RS.give{i j:Nat}{d d':D}{a:Addr}{o:HO}{v:V}{A':List Addr}(hij:i≠j)(h:RS K H0 B0 H σ δ R)(hi:δ[i]? = some (some (.ow d)))(hv:σ[i]? = some (some v))(ha:a∈R i)(t:Tree K (upd H a o) d' v A')(nd:A'.Nodup)(sub:∀b∈A',b∈R i∨b∈R j):
  RS K H0 B0 (upd H a o) σ (givS i j d' δ) (z5W (z5W R j []) i A')∧Stp R H (z5W (z5W R j []) i A') (upd H a o):=by
 obtain⟨oa,ea,ma⟩:=h.held i a ha
 have mH:Mut (H a):=by rw [ea];exact ma
 have mem:∀r b,b∈z5W (z5W R j []) i A' r->(r=i∧(b∈R i∨b∈R j))∨(r≠i∧r≠j∧b∈R r):=fun r b z=>by
  by_cases hr:r=i
  ·subst hr;rw [z0C]at z;exact .inl ⟨rfl,sub b z⟩
  ·rw [z0T hr]at z
   by_cases hj:r=j
   ·subst hj;rw [z0C]at z;cases z
   ·rw [z0T hj]at z;exact .inr ⟨hr,hj,z⟩
 have some':∀r b,b∈z5W (z5W R j []) i A' r->∃s,b∈R s:=fun r b z=>by
  rcases mem r b z with⟨_,z | z⟩ | ⟨_,_,z⟩
  ·exact⟨i,z⟩
  ·exact⟨j,z⟩
  ·exact⟨r,z⟩
 have kt:KeepI K H (upd H a o):=(Keep.upd (K:=K) (B:=fun x=>x=a) rfl mH).i
 refine⟨⟨fun b u q=>?_,h.inB,by simp [givS,z0z,h.len],fun r b z=>?_,fun r b z=>?_,fun r s b z z'=>?_,fun k d2 z=>?_,fun k r2 d2 z=>?_,fun k d2 z=>?_⟩,⟨fun b u q n=>?_,fun r b z=>.inl (some' r b z),fun b z=>?_⟩⟩
 ·have ne:b≠a:=fun z=>by subst z;rw [h.new i b ha]at q;cases q
  rw [z0q ne];exact h.keep b u q
 ·obtain⟨s,z⟩:=some' r b z
  exact h.new s b z
 ·by_cases hr:r=i
  ·subst hr;rw [z0C]at z;exact t.held d' b z
  ·rcases mem r b z with⟨e,_⟩ | ⟨_,_,z⟩
   ·exact absurd e hr
   ·have ne:b≠a:=fun q=>hr (h.disj r i b z (q ▸ ha))
    rw [z0q ne];exact h.held r b z
 ·rcases mem r b z with⟨e1,z⟩ | ⟨n1,n1',z⟩ <;> rcases mem s b z' with⟨e2,z'⟩ | ⟨n2,n2',z'⟩
  ·rw [e1,e2]
  ·rcases z with z | z
   ·exact absurd (h.disj s i b z' z) n2
   ·exact absurd (h.disj s j b z' z) n2'
  ·rcases z' with z' | z'
   ·exact absurd (h.disj r i b z z') n1
   ·exact absurd (h.disj r j b z z') n1'
  ·exact h.disj r s b z z'
 ·rcases z9H z with⟨_,q⟩ | ⟨_,_,q,_,_⟩
  ·cases q
  ·obtain⟨w,e1,r⟩:=h.sh k d2 q
   refine⟨w,e1,Rep.anti ?_ d2 (Rep.keep (.upd (.inr ⟨i,ha⟩) mH) d2 r)⟩
   rintro b (z | ⟨s,z⟩)
   ·exact .inl z
   ·exact .inr (some' s b z)
 ·rcases z9H z with⟨_,q⟩ | ⟨_,_,q,n1,n2⟩
  ·cases q
  ·have hr:i≠r2:=fun e=>n1 d2 (by rw [e])
   have hr':j≠r2:=fun e=>n2 d2 (by rw [e])
   obtain⟨w,e1,r⟩:=h.bo k r2 d2 q
   refine⟨w,e1,Rep.anti ?_ d2 (Rep.keep (.upd (.inr ⟨i,hr,ha⟩) mH) d2 r)⟩
   rintro b (z | ⟨s,hs,z⟩)
   ·exact .inl z
   ·rcases mem s b z with⟨_,z | z⟩ | ⟨_,_,z⟩
    ·exact .inr ⟨i,hr,z⟩
    ·exact .inr ⟨j,hr',z⟩
    ·exact .inr ⟨s,hs,z⟩
 ·rcases z9H z with⟨e,q⟩ | ⟨n1,n2,q,_,_⟩
  ·cases q
   subst e
   rw [z0C]
   exact⟨v,hv,t,nd⟩
  ·obtain⟨w,e1,t',nd'⟩:=h.ow k d2 q
   rw [z0T n1,z0T n2]
   refine⟨w,e1,Tree.keep kt d2 t' fun b hb u q=>?_,nd'⟩
   have ne:b≠a:=fun z=>by subst z;exact n1 (h.disj k i b hb ha)
   rw [z0q ne];exact q
 ·have ne:b≠a:=fun z=>n i (z ▸ ha)
  rw [z0q ne];exact q
 ·by_cases hb:b=a
  ·subst hb;rw [z0m]at z;cases z
  ·rw [z0q hb]at z;exact z
end
section
variable{X:Cx}{H0:Hp}{B0:Addr->Prop}{fr:Bool}{RX:XR}{e:Expr}{pos ap cp:Pos}{x:Str}{px:Pos}
def appO(i j:Nat):SS->Option Out:=fun δ=>match δ[j]?,δ[i]? with
 |some (some (.ow d)),some (some (.ow (.lst ds)))=>(z9a ds [d]).map fun ds'=>.nx (givS i j (.lst ds') δ)
 |_,_=>none
theorem s_appO{i j:Nat}(hij:i≠j)(hx:PE X (.Name x px) (y1u i))(he:PE X e (y1u j))(hbase:attributeBase (.Name x px) "append" X.env (eval (.Name x px) X.env)=eval (.Name x px) X.env:=by rfl)
  (hfew:((backTo cp (starEach [e] X.env)).all (fun x=>!x.1)&&(backToKw cp (keywordEach [] X.env)).all (fun x=>x.1.isSome)&&decide ([e].length+([]:List Keyword).length+(if([]:List Keyword).isEmpty then 0 else 1)<30))=true:=by rfl)
  (hline:(ap.endLine==cp.line)=true:=by rfl) (hs:starEach [e] X.env=(false,eval e X.env)::starEach [] X.env:=by rfl) (hsw:swapsWith (.Call (.Attribute (.Name x px) "append" ap) [e] [] cp) none pos.line X.env=pure false:=by rfl):
  PS X (.Expr (.Call (.Attribute (.Name x px) "append" ap) [e] [] cp) pos) (tS X.K H0 B0 fr RX (appO i j)):=
 PS.imp (z6V (x0U PySem.F.plainAttrs_list PySem.F.slot_list_append PySem.F.type_list_append z4S hx (z1V he pa_nil hs) hbase hfew hline hs rfl) hsw) fun D σ H ⟨δ,R,o,rs,q,k⟩=>by
  unfold appO at q
  split at q
  case h_2=>cases q
  case h_1=>
  rename_i d ds ej ei
  cases e2:z9a ds [d]with
  |none=>rw [e2]at q;cases q
  |some ds'=>
  rw [e2]at q
  cases q
  obtain⟨a,xs,A,ev,ha,ts,eR,nd⟩:=rs.top ei
  obtain⟨v,ev2,t2,nC⟩:=rs.ow j d ej
  refine⟨.ref a,ev,.inl ⟨rfl,xs,SqL.of ha⟩,v,ev2,?_⟩
  show z8N (.ref a) [v] H fun _ H1=>D.nx σ H1
  refine z7b (K:=X.K) H a xs ds [d] [v] ds' _ ha ts.length (.one (t2.rep d (fun _ _ z=>z.elim))) e2 fun w xs' up=>?_
  obtain⟨A',t',n',sub⟩:=up H A (R j) ts (.one t2)
  have hAC:(A++R j).Nodup:=bf.mpr ⟨(av.mp nd).2,nC,fun b hb c hc z=>by
   subst z
   exact hij (rs.disj i j b (by rw [eR];exact ag _ hb) hc)⟩
  have haR:a∈R i:=by rw [eR];exact ah
  have mH:Mut (H a):=by rw [ha];exact trivial
  have nA:∀b∈A',b≠a:=fun b hb z=>by
   rcases sub b hb with q | q
   ·exact(av.mp nd).1 (z ▸ q)
   ·exact hij (rs.disj i j a haR (z ▸ q))
  have T:Tree X.K (upd H a (.lst xs')) (.lst ds') (.ref a) (a::A'):=by
   unfold Tree
   refine⟨a,xs',A',rfl,z0m,Trees.keep (Keep.upd (K:=X.K) (B:=fun x=>x=a) rfl mH).i ds' t' fun b hb o q=>?_,rfl⟩
   rw [z0q (nA b hb)];exact q
  have P:=rs.give hij ei ev haR T (av.mpr ⟨fun z=>nA a z rfl,n' hAC⟩) fun b hb=>by
   rcases ai.mp hb with z | z
   ·rw [z];exact .inl haR
   ·exact(sub b z).imp (fun q=>by rw [eR];exact ag _ q) id
  exact k σ _ _ P.1 P.2
end
section
variable{X:Cx}{pos:Pos}
variable{H0:Hp}{B0:Addr->Prop}{fr:Bool}{RX:XR}
@[irreducible] def PSb(X:Cx)(st:Stmt)(t:TS):Prop:=PS X st t
@[irreducible] def PSsb(X:Cx)(st:List Stmt)(t:TS):Prop:=PSs X st t
end
section
variable{P:Program}{w:World}{K:aa}{mg:Str->Option Value}{base:Heap}
end
end L2
namespace L2
open PySem PySem.Spec PyProof.Rows
section
variable{X:Cx}{H0:Hp}{B0:Addr->Prop}{fr:Bool}{RX:XR}{x:Str}{px p2 ap cp pos:Pos}{ke:Expr}{fk:DE}
end
end L2
namespace L2
open PySem PySem.Spec PyProof.Rows
section
variable{X:Cx}{H0:Hp}{B0:Addr->Prop}{fr:Bool}{RX:XR}{e:Expr}{f:DE}{pos ap cp:Pos}{x:Str}{px:Pos}
def y6i(i:Nat)(f:DE):SS->Option Out:=fun δ=>(f (z0u δ)).bind fun d=>(match d,δ[i]? with
 |.lst es,some (some (.ow (.lst ds)))=>if z1P es=true∧ds.length+es.length≤sizeLine then some (.nx ((z0z i δ).set i (some (.ow (.lst (ds++es))))))else none
 |_,_=>none)
theorem y9Q{i:Nat}(hx:PE X (.Name x px) (y1u i))(he:PD X e f)(hbase:attributeBase (.Name x px) "extend" X.env (eval (.Name x px) X.env)=eval (.Name x px) X.env:=by rfl)
  (hfew:((backTo cp (starEach [e] X.env)).all (fun x=>!x.1)&&(backToKw cp (keywordEach [] X.env)).all (fun x=>x.1.isSome)&&decide ([e].length+([]:List Keyword).length+(if([]:List Keyword).isEmpty then 0 else 1)<30))=true:=by rfl)
  (hline:(ap.endLine==cp.line)=true:=by rfl) (hs:starEach [e] X.env=(false,eval e X.env)::starEach [] X.env:=by rfl) (hsw:swapsWith (.Call (.Attribute (.Name x px) "extend" ap) [e] [] cp) none pos.line X.env=pure false:=by rfl):
  PS X (.Expr (.Call (.Attribute (.Name x px) "extend" ap) [e] [] cp) pos) (tS X.K H0 B0 fr RX (y6i i f)):=
 PS.imp (z6V (x0U PySem.F.plainAttrs_list PySem.F.slot_list_extend PySem.F.type_list_extend y9z hx (z1V he pa_nil hs) hbase hfew hline hs rfl) hsw) fun D σ H ⟨δ,R,o,rs,q,k⟩=>by
  unfold y6i at q
  cases e1:f (z0u δ)with
  |none=>rw [e1]at q;cases q
  |some d=>
  rw [e1,aq]at q
  split at q
  case h_2=>cases q
  case h_1 es ds ei=>
  split at q
  case isFalse=>cases q
  case isTrue hl=>
  cases q
  obtain⟨a,xs,A,ev,ha,ts,eR,nd⟩:=rs.top ei
  refine⟨.ref a,ev,.inl ⟨rfl,xs,SqL.of ha⟩,noB,z0u δ,_,.no,rs.all,e1,fun y H2 s2 r2=>?_⟩
  unfold Rep at r2
  obtain⟨b,zs,rfl,_,hb,rz⟩:=r2
  refine⟨a,b,xs,zs,rfl,rfl,s2 _ _ ha,hb,by rw [←ts.length,←rz.length];exact hl.2,?_⟩
  have tz:=rz.immTree es hl.1
  have P:=rs.put0 s2 ei ev eR nd ((ts.mono s2).append tz) (by rw [aP];exact(av.mp nd).2) fun p hp=>.inl (by rw [aP]at hp;exact hp)
  exact k σ _ _ P.1 P.2
end
section
variable{X:Cx}{pos:Pos}
variable{H0:Hp}{B0:Addr->Prop}{fr:Bool}{RX:XR}
end
end L2
namespace L2
open PySem PySem.Spec PyProof.Rows
section
variable{X:Cx}{e:Expr}{f:DE}{y z:Str}{p p2 p3 p4 pos:Pos}{x1:Nat}{L M1 M2 N:List Str}
end
end L2
namespace L2
open PySem PySem.Spec PyProof.Rows
section
variable{X:Cx}{o e:Expr}{apos cpos:Pos}
end
section
variable{X:Cx}{H0:Hp}{B0:Addr->Prop}{fr:Bool}{RX:XR}{e ke:Expr}{pos:Pos}{x:Str}{px p2:Pos}
end
end L2
namespace L2
open PySem PySem.Spec PyProof.Rows
section
variable{X:Cx}{H0:Hp}{B0:Addr->Prop}{fr:Bool}{RX:XR}{pos:Pos}
end
end L2
namespace L2
open PySem PySem.Spec PyProof.Rows
section
variable{K:aa}{H:Hp}{B:Addr->Prop}{m:Addr}{xs:List V}{o:Obj}
end
section
variable{X:Cx}{H0:Hp}{B0:Addr->Prop}{fr:Bool}{RX:XR}{st:Stmt}
end
end L2
namespace L2
open PySem PySem.Spec PyProof.Rows
section
variable{K:aa}{H:Hp}{B:Addr->Prop}{m:Addr}{xs:List V}
end
section
variable{K:aa}{H0 H H':Hp}{B0:Addr->Prop}{σ:St}{δ:SS}{R:Nat->List Addr}
end
section
variable{X:Cx}{H0:Hp}{B0:Addr->Prop}{fr:Bool}{RX:XR}{st1 st2:Stmt}{sts:List Stmt}{f:DE}{z:Int}
end
end L2
namespace L2
open PySem PySem.Spec PyProof.Rows
section
variable{P:Program}{w:World}{K:aa}{mg:Str->Option Value}{base:Heap}
end
section
variable{X:Cx}{e:Expr}{pos ap cp p2:Pos}{x:Str}{px:Pos}{f:DE}{z:Int}{ke:Expr}
end
end L2
namespace L2
open PySem PySem.Spec PyProof.Rows
section
variable{X:Cx}
variable{e:Expr}{f:DE}{p pos:Pos}
end
end L2
namespace L2
open PySem PySem.Spec PyProof.Rows
section
variable{X:Cx}{H0:Hp}{B0:Addr->Prop}{fr:Bool}{RX:XR}{e:Expr}{pos ap cp ap2 cp2:Pos}{x y:Str}{px py:Pos}
end
end L2
namespace L2
open PySem PySem.Spec PyProof.Rows
section
variable{prog:Program}{w:World}{A:Around}{E:Value->Shared->Prop}{s:Shared}{it t:Addr}{i:Nat}{its:Array Value}{Q:Fin->Shared->Prop}{o ol:Obj}{n:Nat}{x:Value}
theorem tup_nx(ho:s.heap.get? it=some o)(hd:o.data = .fields #[.ref t,.int i 0])(hl:s.heap.get? t=some ol)(hdl:ol.data = .seq its n)(hx:its[i]? = some x)
  (k:Q (.done (.ret x)) { s with heap:=s.heap.update it (Obj.mapFields (·.setIfInBounds 1 (rawInt ((i:Int)+1)))) }):wpAny (model prog w) A (Builtin.«tuple_iterator.__next__» ⟨[.ref it],[]⟩) Q E s:=by
 obtain⟨hp,g,d,tk,os⟩:=s
 obtain⟨c,dd,dt,sl⟩:=o
 obtain⟨c2,dd2,dt2,sl2⟩:=ol
 cases hd
 cases hdl
 have hx':its[((i:Nat):Int).toNat]? = some x:=hx
 wp_walk
 rw [hx']
 wp_walk
 exact k
theorem tup_end(hh:A.handled=none)(ho:s.heap.get? it=some o)(hd:o.data = .fields #[.ref t,.int i 0])(hl:s.heap.get? t=some ol)(hdl:ol.data = .seq its n)(hx:its[i]? = none)
  (k:∀h' e,Heap.ExtBut it s.heap h'->(∃o,h'.get? e=some o∧o.cls = .type "StopIteration")->E (.ref e) { s with heap:=h' }):wpAny (model prog w) A (Builtin.«tuple_iterator.__next__» ⟨[.ref it],[]⟩) Q E s:=by
 obtain⟨hp,g,d,tk,os⟩:=s
 obtain⟨c,dd,dt,sl⟩:=o
 obtain⟨c2,dd2,dt2,sl2⟩:=ol
 cases hd
 cases hdl
 have hx':its[((i:Nat):Int).toNat]? = none:=hx
 wp_walk
 rw [hx']
 wp_walk
 unfold raiseNew
 wp_walk
 exact k _ _ (((Heap.SameBut.update ..).extBut.push _).push _) ⟨_,Heap.get?_push_size _ rfl,rfl⟩
def z8M(prog:Program)(w:World)(A:Around)(it:Addr)(s:Shared)(x:Value)(S:Heap->Prop):Prop:=
 ∀(Q:Value->Shared->Prop) (E:Value->Shared->Prop),(∀h',S h'->Heap.SameBut it s.heap h'->Q x { s with heap:=h' })->wpAny (model prog w) A (Builtin.SmallTypes.nextOf (.ref it)) Q E s
def y2K(prog:Program)(w:World)(A:Around)(it:Addr)(s:Shared):Prop:=
 ∀(Q:Value->Shared->Prop) (E:Value->Shared->Prop),(∀h' e,Heap.ExtBut it s.heap h'->(∃o,h'.get? e=some o∧o.cls = .type "StopIteration")->E (.ref e) { s with heap:=h' })->wpAny (model prog w) A (Builtin.SmallTypes.nextOf (.ref it)) Q E s
theorem y5z{l:Addr}(hi:s.heap.IsListIter it l i)(hl:s.heap.IsList l its)(hx:its[i]? = some x):z8M prog w A it s x fun h=>h.IsListIter it l (i+1):=fun _ _ k=>wpAny_nextOf_list_item hi hl hx k
theorem y6d{l:Addr}(hh:A.handled=none)(hi:s.heap.IsListIter it l i)(hl:s.heap.IsList l its)(hx:its[i]? = none):y2K prog w A it s:=fun _ _ k=>wpAny_nextOf_list_end hh hi hl hx k
theorem y6J(hi:s.heap.IsTupleIter it t i)(hl:s.heap.IsTuple t its)(hx:its[i]? = some x):z8M prog w A it s x fun h=>h.IsTupleIter it t (i+1):=fun Q E k=>by
 obtain⟨o,ho,hc,hd⟩:=id hi
 obtain⟨ol,hol,_,n,hdl⟩:=hl
 exact wpAny_bind (wpAny_callSpecial?_slot (name:=Str.ofString "__next__") hi.typeIs F.slot_tuple_iterator_next (wpAny_call_entry F.slot_tuple_iterator_next hi.typeIs F.entry_tuple_iterator_next
  (tup_nx ho hd hol hdl hx ⟨x,rfl,wpAny_pure (k _ ⟨_,Heap.get?_update_self _ ho (Obj.isFreed_of_fields (Obj.data_mapFields hd _)),(Obj.cls_mapFields ..).trans hc,(Obj.data_mapFields hd _).trans (by simp [rawInt])⟩ (Heap.SameBut.update ..))⟩) (F.args_tuple_iterator_next_1 _)))
theorem x2e(hh:A.handled=none)(hi:s.heap.IsTupleIter it t i)(hl:s.heap.IsTuple t its)(hx:its[i]? = none):y2K prog w A it s:=fun Q E k=>by
 obtain⟨o,ho,hc,hd⟩:=id hi
 obtain⟨ol,hol,_,n,hdl⟩:=hl
 exact wpAny_bind (wpAny_callSpecial?_slot (name:=Str.ofString "__next__") hi.typeIs F.slot_tuple_iterator_next (wpAny_call_entry F.slot_tuple_iterator_next hi.typeIs F.entry_tuple_iterator_next
  (tup_end hh ho hd hol hdl hx k) (F.args_tuple_iterator_next_1 _)))
end
section
variable{prog:Program}{w:World}{A:Around}{E:Value->Shared->Prop}{s:Shared}{z TI TO i1 i2:Addr}{a b:Value}
def Stay(xs:List Addr)(h h':Heap):Prop:=∀c o,c∉xs->h.get? c=some o->h'.get? c=some o
theorem Stay.but{c:Addr}{xs:List Addr}{h h1 h2:Heap}(k:Stay xs h h1)(e:Heap.ExtBut c h1 h2)(hc:c∈xs):Stay xs h h2:=fun b o hb q=>e b o (fun z=>hb (z ▸ hc)) (k b o hb q)
theorem Stay.one{c:Addr}{xs:List Addr}{h h1:Heap}(e:Heap.ExtBut c h h1)(hc:c∈xs):Stay xs h h1:=fun b o hb q=>e b o (fun z=>hb (z ▸ hc)) q
theorem Stay.wide{xs ys:List Addr}{h h1:Heap}(k:Stay xs h h1)(e:∀c∈xs,c∈ys):Stay ys h h1:=fun b o hb q=>k b o (fun z=>hb (e b z)) q
set_option maxHeartbeats 4000000 in
theorem zip_nx{x y:Value}{S1 S2:Heap->Prop}{Q:Value->Shared->Prop}(nd:[z,TI,TO,i1,i2].Nodup)(hz:IsZip s.heap z TI TO .none)(hI:IsPair s.heap TI (.ref i1) (.ref i2))(hO:IsPair s.heap TO a b)
  (g1:∀h,Stay [z] s.heap h->z8M prog w A i1 { s with heap:=h } x S1) (g2:∀h,Stay [z,i1,TO] s.heap h->z8M prog w A i2 { s with heap:=h } y S2)
  (f1:∀h h',S1 h->(∀o,h.get? i1=some o->h'.get? i1=some o)->S1 h') (f2:∀h h',S2 h->(∀o,h.get? i2=some o->h'.get? i2=some o)->S2 h')
  (k:∀h',IsZip h' z TI TO (rawInt s.heap.objs.size)->IsPair h' TO x y->S1 h'->S2 h'->IsPair h' s.heap.objs.size x y->Stay [z,TO,i1,i2] s.heap h'->Q (.ref s.heap.objs.size) { s with heap:=h' }):
  wpAny (model prog w) A (Builtin.«zip.__next__» ⟨[.ref z],[]⟩) (fun f s'=>∃v,f = .done (.ret v)∧Q v s') E s:=by
 simp only [av,ai,bq,or_false,not_or]at nd
 obtain⟨⟨zI,zO,z1,z2⟩,⟨IO,I1,I2⟩,⟨O1,O2⟩,⟨h12,_⟩⟩:=nd
 obtain⟨hp,g,d,tk,os⟩:=s
 have hz:hp.get? z=some ⟨.type "zip",none,.fields #[.none,.bool false,.bool false,.ref TI,.ref TO],#[]⟩:=hz
 have hI:hp.get? TI=some ⟨.type "tuple",none,.seq #[.ref i1,.ref i2] 0,#[]⟩:=hI
 have hO:hp.get? TO=some ⟨.type "tuple",none,.seq #[a,b] 0,#[]⟩:=hO
 have G1:∀(h:Heap) (Q:Value->Shared->Prop) (E:Value->Shared->Prop),(∀h',S1 h'->Heap.SameBut i1 h h'->Q x ⟨h',g,d,tk,os⟩)->Stay [z] hp h->wpAny (model prog w) A (Builtin.SmallTypes.nextOf (.ref i1)) Q E ⟨h,g,d,tk,os⟩:=fun h Q E k st=>g1 h st Q E k
 have G2:∀(h:Heap) (Q:Value->Shared->Prop) (E:Value->Shared->Prop),(∀h',S2 h'->Heap.SameBut i2 h h'->Q y ⟨h',g,d,tk,os⟩)->Stay [z,i1,TO] hp h->wpAny (model prog w) A (Builtin.SmallTypes.nextOf (.ref i2)) Q E ⟨h,g,d,tk,os⟩:=fun h Q E k st=>g2 h st Q E k
 clear g1 g2
 wp_walk using wpAny_onRaise,G1
 ·intro hb t1 sb
  have za:(hp.update z (Obj.mapFields fun x=>x.setIfInBounds 0 Value.ellipsis)).get? z=some ⟨.type "zip",none,.fields #[.ellipsis,.bool false,.bool false,.ref TI,.ref TO],#[]⟩:=Heap.get?_update_self _ hz rfl
  have sa:Heap.SameBut z hp (hp.update z (Obj.mapFields fun x=>x.setIfInBounds 0 Value.ellipsis)):=Heap.SameBut.update ..
  generalize hp.update z (Obj.mapFields fun x=>x.setIfInBounds 0 Value.ellipsis)=ha at za sa sb
  have zb:hb.get? z=some ⟨.type "zip",none,.fields #[.ellipsis,.bool false,.bool false,.ref TI,.ref TO],#[]⟩:=(sb.2 z z1).trans za
  have ob:hb.get? TO=some ⟨.type "tuple",none,.seq #[a,b] 0,#[]⟩:=(sb.2 TO O1).trans ((sa.2 TO (Ne.symm zO)).trans hO)
  have stb:Stay [z,i1,TO] hp hb:=(Stay.one sa.extBut (by simp)).but sb.extBut (by simp)
  wp_walk using wpAny_onRaise,G2
  ·intro hd t2 sd
   have oc:(hb.update TO (Obj.mapSeq fun v=>v.setIfInBounds 0 x)).get? TO=some ⟨.type "tuple",none,.seq #[x,b] 0,#[]⟩:=Heap.get?_update_self _ ob rfl
   have sc:Heap.SameBut TO hb (hb.update TO (Obj.mapSeq fun v=>v.setIfInBounds 0 x)):=Heap.SameBut.update ..
   generalize hb.update TO (Obj.mapSeq fun v=>v.setIfInBounds 0 x)=hc at oc sc sd
   have zd:hd.get? z=some ⟨.type "zip",none,.fields #[.ellipsis,.bool false,.bool false,.ref TI,.ref TO],#[]⟩:=(sd.2 z z2).trans ((sc.2 z zO).trans zb)
   have od:hd.get? TO=some ⟨.type "tuple",none,.seq #[x,b] 0,#[]⟩:=(sd.2 TO O2).trans oc
   have std:Stay [z,TO,i1,i2] hp hd:=((stb.wide (by simp)).but sc.extBut (by simp)).but sd.extBut (by simp)
   have t1d:S1 hd:=f1 _ _ t1 fun o q=>(sd.2 i1 h12).trans ((sc.2 i1 (Ne.symm O1)).trans q)
   have szd:hd.objs.size=hp.objs.size:=by rw [sd.1,sc.1,sb.1,sa.1]
   wp_walk
   have oe:(hd.update TO (Obj.mapSeq fun v=>v.setIfInBounds (0+1) y)).get? TO=some ⟨.type "tuple",none,.seq #[x,y] 0,#[]⟩:=Heap.get?_update_self _ od rfl
   have se:Heap.SameBut TO hd (hd.update TO (Obj.mapSeq fun v=>v.setIfInBounds (0+1) y)):=Heap.SameBut.update ..
   generalize hd.update TO (Obj.mapSeq fun v=>v.setIfInBounds (0+1) y)=he at oe se
   have sze:he.objs.size=hp.objs.size:=by rw [se.1,szd]
   have ze:(he.push ⟨.type "tuple",none,.seq #[x,y] 0,#[]⟩).get? z=some ⟨.type "zip",none,.fields #[.ellipsis,.bool false,.bool false,.ref TI,.ref TO],#[]⟩:=Heap.get?_push_of_some _ ((se.2 z zO).trans zd)
   have pe:(he.push ⟨.type "tuple",none,.seq #[x,y] 0,#[]⟩).get? he.objs.size=some ⟨.type "tuple",none,.seq #[x,y] 0,#[]⟩:=Heap.get?_push_size _ rfl
   have hne:he.objs.size≠z:=by rw [sze];exact cA (Heap.lt_size hz)
   have zf:=Heap.get?_update_self (Obj.mapFields fun v=>v.setIfInBounds 0 (rawInt he.objs.size)) ze rfl
   have zg:=Heap.get?_update_self (Obj.mapFields fun v=>v.setIfInBounds 1 (.bool false)) zf rfl
   have sg:∀c o,c≠z->he.get? c=some o->(((he.push ⟨.type "tuple",none,.seq #[x,y] 0,#[]⟩).update z (Obj.mapFields fun v=>v.setIfInBounds 0 (rawInt he.objs.size))).update z (Obj.mapFields fun v=>v.setIfInBounds 1 (.bool false))).get? c=some o:=fun c o hc q=>
    (Heap.SameBut.update ..).extBut _ _ hc ((Heap.SameBut.update ..).extBut _ _ hc (Heap.get?_push_of_some _ q))
   refine⟨_,rfl,?_⟩
   have pg:(((he.push ⟨.type "tuple",none,.seq #[x,y] 0,#[]⟩).update z (Obj.mapFields fun v=>v.setIfInBounds 0 (rawInt he.objs.size))).update z (Obj.mapFields fun v=>v.setIfInBounds 1 (.bool false))).get? he.objs.size=some ⟨.type "tuple",none,.seq #[x,y] 0,#[]⟩:=
    (Heap.SameBut.update ..).extBut _ _ hne ((Heap.SameBut.update ..).extBut _ _ hne pe)
   have ste:Stay [z,TO,i1,i2] hp he:=std.but se.extBut (by simp)
   have k1:=k _ (by rw [←sze];exact zg) (sg TO _ (Ne.symm zO) oe) (f1 _ _ t1d fun o q=>sg i1 o (Ne.symm z1) ((se.2 i1 (Ne.symm O1)).trans q)) (f2 _ _ t2 fun o q=>sg i2 o (Ne.symm z2) ((se.2 i2 (Ne.symm O2)).trans q)) (by rw [←sze];exact pg)
    fun c o hc q=>sg c o (fun e=>hc (by simp [e])) (ste c o hc q)
   rw [←sze]at k1
   exact k1
  ·exact stb.but (Heap.SameBut.update ..).extBut (by simp)
 ·exact Stay.one (Heap.SameBut.update ..).extBut (by simp)
set_option maxHeartbeats 4000000 in
theorem zip_e1{Q:Fin->Shared->Prop}(nd:[z,TI,TO,i1,i2].Nodup)(hz:IsZip s.heap z TI TO .none)(hI:IsPair s.heap TI (.ref i1) (.ref i2))(hO:IsPair s.heap TO a b)
  (g1:∀h,Stay [z] s.heap h->y2K prog w A i1 { s with heap:=h })
  (k:∀h' e,Stay [z,TO,i1,i2] s.heap h'->(∃o,h'.get? e=some o∧o.cls = .type "StopIteration")->E (.ref e) { s with heap:=h' }):
  wpAny (model prog w) A (Builtin.«zip.__next__» ⟨[.ref z],[]⟩) Q E s:=by
 simp only [av,ai,bq,or_false,not_or]at nd
 obtain⟨⟨zI,zO,z1,z2⟩,⟨IO,I1,I2⟩,⟨O1,O2⟩,⟨h12,_⟩⟩:=nd
 obtain⟨hp,g,d,tk,os⟩:=s
 have hz:hp.get? z=some ⟨.type "zip",none,.fields #[.none,.bool false,.bool false,.ref TI,.ref TO],#[]⟩:=hz
 have hI:hp.get? TI=some ⟨.type "tuple",none,.seq #[.ref i1,.ref i2] 0,#[]⟩:=hI
 have hO:hp.get? TO=some ⟨.type "tuple",none,.seq #[a,b] 0,#[]⟩:=hO
 have G1:∀(h:Heap) (Q:Value->Shared->Prop) (E:Value->Shared->Prop),(∀h' e,Heap.ExtBut i1 h h'->(∃o,h'.get? e=some o∧o.cls = .type "StopIteration")->E (.ref e) ⟨h',g,d,tk,os⟩)->Stay [z] hp h->wpAny (model prog w) A (Builtin.SmallTypes.nextOf (.ref i1)) Q E ⟨h,g,d,tk,os⟩:=fun h Q E k st=>g1 h st Q E k
 clear g1
 wp_walk using wpAny_onRaise,G1
 ·intro hb e sb he
  have za:(hp.update z (Obj.mapFields fun x=>x.setIfInBounds 0 Value.ellipsis)).get? z=some ⟨.type "zip",none,.fields #[.ellipsis,.bool false,.bool false,.ref TI,.ref TO],#[]⟩:=Heap.get?_update_self _ hz rfl
  have sa:Heap.SameBut z hp (hp.update z (Obj.mapFields fun x=>x.setIfInBounds 0 Value.ellipsis)):=Heap.SameBut.update ..
  generalize hp.update z (Obj.mapFields fun x=>x.setIfInBounds 0 Value.ellipsis)=ha at za sa sb
  have zb:hb.get? z=some ⟨.type "zip",none,.fields #[.ellipsis,.bool false,.bool false,.ref TI,.ref TO],#[]⟩:=sb z _ z1 za
  have stb:Stay [z,TO,i1,i2] hp hb:=(Stay.one sa.extBut (by simp)).but sb (by simp)
  obtain⟨oe,ee,ec⟩:=he
  have ez:e≠z:=fun q=>by subst q;rw [zb]at ee;cases ee;simp at ec
  wp_walk
  exact k _ _ (stb.but (Heap.SameBut.update ..).extBut (by simp)) ⟨oe,(Heap.SameBut.update ..).extBut _ _ ez ee,ec⟩
 ·exact Stay.one (Heap.SameBut.update ..).extBut (by simp)
set_option maxHeartbeats 4000000 in
theorem zip_e2{x:Value}{S1:Heap->Prop}{Q:Fin->Shared->Prop}(nd:[z,TI,TO,i1,i2].Nodup)(hz:IsZip s.heap z TI TO .none)(hI:IsPair s.heap TI (.ref i1) (.ref i2))(hO:IsPair s.heap TO a b)
  (g1:∀h,Stay [z] s.heap h->z8M prog w A i1 { s with heap:=h } x S1) (g2:∀h,Stay [z,i1,TO] s.heap h->y2K prog w A i2 { s with heap:=h })
  (k:∀h' e,Stay [z,TO,i1,i2] s.heap h'->(∃o,h'.get? e=some o∧o.cls = .type "StopIteration")->E (.ref e) { s with heap:=h' }):
  wpAny (model prog w) A (Builtin.«zip.__next__» ⟨[.ref z],[]⟩) Q E s:=by
 simp only [av,ai,bq,or_false,not_or]at nd
 obtain⟨⟨zI,zO,z1,z2⟩,⟨IO,I1,I2⟩,⟨O1,O2⟩,⟨h12,_⟩⟩:=nd
 obtain⟨hp,g,d,tk,os⟩:=s
 have hz:hp.get? z=some ⟨.type "zip",none,.fields #[.none,.bool false,.bool false,.ref TI,.ref TO],#[]⟩:=hz
 have hI:hp.get? TI=some ⟨.type "tuple",none,.seq #[.ref i1,.ref i2] 0,#[]⟩:=hI
 have hO:hp.get? TO=some ⟨.type "tuple",none,.seq #[a,b] 0,#[]⟩:=hO
 have G1:∀(h:Heap) (Q:Value->Shared->Prop) (E:Value->Shared->Prop),(∀h',S1 h'->Heap.SameBut i1 h h'->Q x ⟨h',g,d,tk,os⟩)->Stay [z] hp h->wpAny (model prog w) A (Builtin.SmallTypes.nextOf (.ref i1)) Q E ⟨h,g,d,tk,os⟩:=fun h Q E k st=>g1 h st Q E k
 have G2:∀(h:Heap) (Q:Value->Shared->Prop) (E:Value->Shared->Prop),(∀h' e,Heap.ExtBut i2 h h'->(∃o,h'.get? e=some o∧o.cls = .type "StopIteration")->E (.ref e) ⟨h',g,d,tk,os⟩)->Stay [z,i1,TO] hp h->wpAny (model prog w) A (Builtin.SmallTypes.nextOf (.ref i2)) Q E ⟨h,g,d,tk,os⟩:=fun h Q E k st=>g2 h st Q E k
 clear g1 g2
 wp_walk using wpAny_onRaise,G1
 ·intro hb t1 sb
  have za:(hp.update z (Obj.mapFields fun x=>x.setIfInBounds 0 Value.ellipsis)).get? z=some ⟨.type "zip",none,.fields #[.ellipsis,.bool false,.bool false,.ref TI,.ref TO],#[]⟩:=Heap.get?_update_self _ hz rfl
  have sa:Heap.SameBut z hp (hp.update z (Obj.mapFields fun x=>x.setIfInBounds 0 Value.ellipsis)):=Heap.SameBut.update ..
  generalize hp.update z (Obj.mapFields fun x=>x.setIfInBounds 0 Value.ellipsis)=ha at za sa sb
  have zb:hb.get? z=some ⟨.type "zip",none,.fields #[.ellipsis,.bool false,.bool false,.ref TI,.ref TO],#[]⟩:=(sb.2 z z1).trans za
  have ob:hb.get? TO=some ⟨.type "tuple",none,.seq #[a,b] 0,#[]⟩:=(sb.2 TO O1).trans ((sa.2 TO (Ne.symm zO)).trans hO)
  have stb:Stay [z,i1,TO] hp hb:=(Stay.one sa.extBut (by simp)).but sb.extBut (by simp)
  wp_walk using wpAny_onRaise,G2
  ·intro hd e sd he
   have sc:Heap.SameBut TO hb (hb.update TO (Obj.mapSeq fun v=>v.setIfInBounds 0 x)):=Heap.SameBut.update ..
   generalize hb.update TO (Obj.mapSeq fun v=>v.setIfInBounds 0 x)=hc at sc sd
   have zd:hd.get? z=some ⟨.type "zip",none,.fields #[.ellipsis,.bool false,.bool false,.ref TI,.ref TO],#[]⟩:=sd z _ z2 ((sc.2 z zO).trans zb)
   have std:Stay [z,TO,i1,i2] hp hd:=((stb.wide (by simp)).but sc.extBut (by simp)).but sd (by simp)
   obtain⟨oe,ee,ec⟩:=he
   have ez:e≠z:=fun q=>by subst q;rw [zd]at ee;cases ee;simp at ec
   wp_walk
   exact k _ _ (std.but (Heap.SameBut.update ..).extBut (by simp)) ⟨oe,(Heap.SameBut.update ..).extBut _ _ ez ee,ec⟩
  ·exact stb.but (Heap.SameBut.update ..).extBut (by simp)
 ·exact Stay.one (Heap.SameBut.update ..).extBut (by simp)
end
section
variable{prog:Program}{w:World}{A:Around}{E:Value->Shared->Prop}{s:Shared}{z TI TO i1 i2:Addr}{a b:Value}
theorem pnx_zip{x y:Value}{S1 S2:Heap->Prop}{Q:Option Value->Shared->Prop}(nd:[z,TI,TO,i1,i2].Nodup)(hz:IsZip s.heap z TI TO .none)(hI:IsPair s.heap TI (.ref i1) (.ref i2))(hO:IsPair s.heap TO a b)
  (g1:∀A h,Stay [z] s.heap h->z8M prog w A i1 { s with heap:=h } x S1) (g2:∀A h,Stay [z,i1,TO] s.heap h->z8M prog w A i2 { s with heap:=h } y S2)
  (f1:∀h h',S1 h->(∀o,h.get? i1=some o->h'.get? i1=some o)->S1 h') (f2:∀h h',S2 h->(∀o,h.get? i2=some o->h'.get? i2=some o)->S2 h')
  (k:∀h',IsZip h' z TI TO (rawInt s.heap.objs.size)->IsPair h' TO x y->S1 h'->S2 h'->IsPair h' s.heap.objs.size x y->Stay [z,TO,i1,i2] s.heap h'->Q (some (.ref s.heap.objs.size)) { s with heap:=h' }):
  wpAny (model prog w) A (pyNext (.ref z)) Q E s:=
 have hT:s.TypeIs (.ref z) "zip" := ⟨_,hz,rfl⟩
 wpAny_bind (wpAny_attempt (wpAny_callSpecial?_slot (name:=Str.ofString "__next__") hT F.slot_zip_next (wpAny_call_entry F.slot_zip_next hT F.entry_zip_next
  (zip_nx nd hz hI hO (g1 _) (g2 _) f1 f2 fun h' a1 a2 a3 a4 a5 a6=>wpAny_pure (k h' a1 a2 a3 a4 a5 a6)) (F.args_zip_next_1 _))))
theorem pne_zip{Q:Option Value->Shared->Prop}(hh:A.handled=none)(nd:[z,TI,TO,i1,i2].Nodup)(hz:IsZip s.heap z TI TO .none)(hI:IsPair s.heap TI (.ref i1) (.ref i2))(hO:IsPair s.heap TO a b)
  (g:(∀A:Around,A.handled=none->∀h,Stay [z] s.heap h->y2K prog w A i1 { s with heap:=h })∨((∃x S1,∀A h,Stay [z] s.heap h->z8M prog w A i1 { s with heap:=h } x S1)∧∀A:Around,A.handled=none->∀h,Stay [z,i1,TO] s.heap h->y2K prog w A i2 { s with heap:=h }))
  (k:∀h',Stay [z,TO,i1,i2] s.heap h'->Q none { s with heap:=h' }):wpAny (model prog w) A (pyNext (.ref z)) Q E s:=by
 have hT:s.TypeIs (.ref z) "zip" := ⟨_,hz,rfl⟩
 have fin:∀h' e,Stay [z,TO,i1,i2] s.heap h'->(∃o,h'.get? e=some o∧o.cls = .type "StopIteration")->wpAny (model prog w) A (do if ←isInstance (.ref e) (.type "StopIteration")then pure none else throw (.ref e)) Q E { s with heap:=h' }:=fun h' e st ⟨o,ho,hc⟩=>
  wpAny_bind (wpAny_isInstance (T := "StopIteration") (b:=true) ⟨o,ho,hc⟩ isSubtype_stop (wpAny_pure (k _ st)))
 rcases g with g1 | ⟨⟨x,S1,g1⟩,g2⟩
 ·exact wpAny_bind (wpAny_attempt (wpAny_callSpecial?_slot (name:=Str.ofString "__next__") hT F.slot_zip_next (wpAny_call_entry F.slot_zip_next hT F.entry_zip_next (zip_e1 nd hz hI hO (g1 _ hh) fin) (F.args_zip_next_1 _))))
 ·exact wpAny_bind (wpAny_attempt (wpAny_callSpecial?_slot (name:=Str.ofString "__next__") hT F.slot_zip_next (wpAny_call_entry F.slot_zip_next hT F.entry_zip_next (zip_e2 nd hz hI hO (g1 _) (g2 _ hh) fin) (F.args_zip_next_1 _))))
abbrev zt1(h:Heap)(t:Addr):Heap:=h.push ⟨.type "tuple_iterator",none,.fields #[.ref t,.int 0 0],#[]⟩
abbrev zt2(h:Heap)(t l:Addr):Heap:=(zt1 h t).push ⟨.type "list_iterator",none,.fields #[.ref l,.int 0 0],#[]⟩
abbrev zt3(h:Heap)(t l:Addr):Heap:=(zt2 h t l).push ⟨.type "tuple",none,.seq #[.ref h.objs.size,.ref (zt1 h t).objs.size] 0,#[]⟩
abbrev zt4(h:Heap)(t l:Addr):Heap:=(zt3 h t l).push ⟨.type "tuple",none,.seq #[.none,.none] 0,#[]⟩
abbrev zt5(h:Heap)(t l:Addr):Heap:=(zt4 h t l).push ⟨.type "zip",none,.fields #[.none,.bool false,.bool false,.ref (zt2 h t l).objs.size,.ref (zt3 h t l).objs.size],#[]⟩
theorem mz_new(t l:Addr)(xs ys:Array Value):Meets (Builtin.«zip.__new__» ⟨[.type "zip",.ref t,.ref l],[]⟩) fun _ R s=>s.heap.IsTuple t xs∧s.heap.IsList l ys∧R (.ok (.ret (.ref (zt4 s.heap t l).objs.size))) { s with heap:=zt5 s.heap t l }:=
 .of_wp fun prog w A R s h=>by
  obtain⟨ht,hl,h⟩:=h
  obtain⟨hp,g,d,tk,os⟩:=s
  have q0:=sub_zip
  have q1:Heap.IsTuple (Shared.heap ⟨hp,g,d,tk,os⟩) t xs:=ht
  have q2:Heap.IsList (Shared.heap ⟨zt1 hp t,g,d,tk,os⟩) l ys:=Heap.IsList.push hl _
  wp_walk using wpAny_pyIter_tuple q1,wpAny_pyIter_list q2
  exact⟨_,rfl,h⟩
theorem y8K{t l:Addr}{xs ys:Array Value}{Q:Value->Shared->Prop}(ht:s.heap.IsTuple t xs)(hl:s.heap.IsList l ys)
  (h:∀h',IsZip h' (s.heap.objs.size+4) (s.heap.objs.size+2) (s.heap.objs.size+3) .none->IsPair h' (s.heap.objs.size+2) (.ref s.heap.objs.size) (.ref (s.heap.objs.size+1))->IsPair h' (s.heap.objs.size+3) .none .none →
   h'.IsTupleIter s.heap.objs.size t 0->h'.IsListIter (s.heap.objs.size+1) l 0->(∀c o,s.heap.get? c=some o->h'.get? c=some o)->Q (.ref (s.heap.objs.size+4)) { s with heap:=h' }):
  wpAny (model prog w) A (call (.type "zip") [.ref t,.ref l]) Q E s:=by
 refine callType_new F.called_zip (by decide) (F.typeCall_zip_2 _ _) (F.newCall_zip_2 _ _) (fun obj=>F.args_object_init_3 obj _ _) F.entry_zip_new (mz_new t l xs ys) ⟨ht,hl,?_⟩
 have n1:(zt1 s.heap t).objs.size=s.heap.objs.size+1:=Heap.size_push ..
 have n2:(zt2 s.heap t l).objs.size=s.heap.objs.size+2:=(Heap.size_push ..).trans (by rw [n1])
 have n3:(zt3 s.heap t l).objs.size=s.heap.objs.size+3:=(Heap.size_push ..).trans (by rw [n2])
 have n4:(zt4 s.heap t l).objs.size=s.heap.objs.size+4:=(Heap.size_push ..).trans (by rw [n3])
 have up1:∀{c o},s.heap.get? c=some o->(zt1 s.heap t).get? c=some o:=fun q=>Heap.get?_push_of_some _ q
 have up2:∀{c o},(zt1 s.heap t).get? c=some o->(zt2 s.heap t l).get? c=some o:=fun q=>Heap.get?_push_of_some _ q
 have up3:∀{c o},(zt2 s.heap t l).get? c=some o->(zt3 s.heap t l).get? c=some o:=fun q=>Heap.get?_push_of_some _ q
 have up4:∀{c o},(zt3 s.heap t l).get? c=some o->(zt4 s.heap t l).get? c=some o:=fun q=>Heap.get?_push_of_some _ q
 have up5:∀{c o},(zt4 s.heap t l).get? c=some o->(zt5 s.heap t l).get? c=some o:=fun q=>Heap.get?_push_of_some _ q
 have a1:(zt1 s.heap t).get? s.heap.objs.size=some ⟨.type "tuple_iterator",none,.fields #[.ref t,.int 0 0],#[]⟩:=Heap.get?_push_size _ rfl
 have a2:(zt2 s.heap t l).get? (s.heap.objs.size+1)=some ⟨.type "list_iterator",none,.fields #[.ref l,.int 0 0],#[]⟩:=by rw [←n1];exact Heap.get?_push_size _ rfl
 have a3:(zt3 s.heap t l).get? (s.heap.objs.size+2)=some ⟨.type "tuple",none,.seq #[.ref s.heap.objs.size,.ref (s.heap.objs.size+1)] 0,#[]⟩:=by rw [←n2,←n1];exact Heap.get?_push_size _ rfl
 have a4:(zt4 s.heap t l).get? (s.heap.objs.size+3)=some ⟨.type "tuple",none,.seq #[.none,.none] 0,#[]⟩:=by rw [←n3];exact Heap.get?_push_size _ rfl
 have a5:(zt5 s.heap t l).get? (s.heap.objs.size+4)=some ⟨.type "zip",none,.fields #[.none,.bool false,.bool false,.ref (s.heap.objs.size+2),.ref (s.heap.objs.size+3)],#[]⟩:=by rw [←n4,←n2,←n3];exact Heap.get?_push_size _ rfl
 show _∧_
 rw [n4]
 exact⟨⟨_,a5,rfl⟩,h _ a5 (up5 (up4 a3)) (up5 a4) ⟨_,up5 (up4 (up3 (up2 a1))),rfl,rfl⟩ ⟨_,up5 (up4 (up3 a2)),rfl,rfl⟩ fun c o q=>up5 (up4 (up3 (up2 (up1 q))))⟩
end
end L2
namespace L2
open PySem PySem.Spec PyProof.Rows
def SqX(K:aa)(H:Hp)(tp:Bool)(a:Addr)(xs:List V):Prop:=if tp=true then SqT K H a xs else SqL K H a xs
def SIt(h:Heap)(tp:Bool)(it a:Addr)(i:Nat):Prop:=if tp=true then h.IsTupleIter it a i else h.IsListIter it a i
def SSq(h:Heap)(tp:Bool)(a:Addr)(its:Array Value):Prop:=if tp=true then h.IsTuple a its else h.IsList a its
theorem SIt.obj{h:Heap}{tp:Bool}{it a:Addr}{i:Nat}(x:SIt h tp it a i):∃o,h.get? it=some o∧(o.cls = .type "tuple_iterator" ∨ o.cls = .type "list_iterator")∧∃vs,o.data = .fields vs:=by
 cases tp with
 |true=>obtain⟨o,e,c,d⟩:=(show h.IsTupleIter it a i from x);exact⟨o,e,.inl c,_,d⟩
 |false=>obtain⟨o,e,c,d⟩:=(show h.IsListIter it a i from x);exact⟨o,e,.inr c,_,d⟩
theorem SSq.obj{h:Heap}{tp:Bool}{a:Addr}{its:Array Value}(x:SSq h tp a its):∃o,h.get? a=some o∧(o.cls = .type "tuple" ∨ o.cls = .type "list"):=by
 cases tp with
 |true=>obtain⟨o,e,c,_⟩:=(show h.IsTuple a its from x);exact⟨o,e,.inl c⟩
 |false=>obtain⟨o,e,c,_⟩:=(show h.IsList a its from x);exact⟨o,e,.inr c⟩
theorem SIt.at{h h':Heap}{tp:Bool}{it a:Addr}{i:Nat}(x:SIt h tp it a i)(k:∀o,h.get? it=some o->h'.get? it=some o):SIt h' tp it a i:=by
 cases tp with
 |true=>obtain⟨o,e,r⟩:=(show h.IsTupleIter it a i from x);exact⟨o,k o e,r⟩
 |false=>obtain⟨o,e,r⟩:=(show h.IsListIter it a i from x);exact⟨o,k o e,r⟩
theorem SSq.at{h h':Heap}{tp:Bool}{a:Addr}{its:Array Value}(x:SSq h tp a its)(k:∀o,h.get? a=some o->h'.get? a=some o):SSq h' tp a its:=by
 cases tp with
 |true=>obtain⟨o,e,r⟩:=(show h.IsTuple a its from x);exact⟨o,k o e,r⟩
 |false=>obtain⟨o,e,r⟩:=(show h.IsList a its from x);exact⟨o,k o e,r⟩
theorem y2p{prog:Program}{w:World}{A:Around}{s:Shared}{tp:Bool}{it a:Addr}{i:Nat}{its:Array Value}{x:Value}(hi:SIt s.heap tp it a i)(hl:SSq s.heap tp a its)(hx:its[i]? = some x):z8M prog w A it s x fun h=>SIt h tp it a (i+1):=by
 cases tp with
 |true=>exact y6J hi hl hx
 |false=>exact y5z hi hl hx
theorem x2N{prog:Program}{w:World}{A:Around}{s:Shared}{tp:Bool}{it a:Addr}{i:Nat}{its:Array Value}(hh:A.handled=none)(hi:SIt s.heap tp it a i)(hl:SSq s.heap tp a its)(hx:its[i]? = none):y2K prog w A it s:=by
 cases tp with
 |true=>exact x2e hh hi hl hx
 |false=>exact y6d hh hi hl hx
section
variable{X:Cx}{pins:List (Addr×Obj)}{σ:St}{H:Hp}{s:Shared}{a:Addr}{xs ys:List V}{tp:Bool}
theorem Inv.seqX(I:Inv X pins σ H s)(h:SqX X.K H tp a xs):∃its:List Value,Vals xs its∧SSq s.heap tp a its.toArray:=by
 cases tp with
 |true=>obtain⟨its,r,p,_⟩:=I.tuple h;exact⟨its,r,p⟩
 |false=>obtain⟨its,r,p,_⟩:=I.list h;exact⟨its,r,p.isList⟩
theorem Inv.seqX_inj(I:Inv X pins σ H s)(h:SqX X.K H tp a xs)(h':SqX X.K H tp a ys):xs=ys:=by
 cases tp with
 |true=>exact I.tuple_inj h h'
 |false=>exact I.list_inj h h'
end
def Itz(K:aa)(tp:Bool)(a b:Addr):It:=
 ⟨fun i H=>∃xs ys x y,SqX K H tp a xs∧SqL K H b ys∧xs[i]? = some x∧ys[i]? = some y,fun i H v H'=>∃p x y,H p=none∧v = .ref p∧H'=upd H p (.tup [x,y])∧∀xs ys,SqX K H tp a xs->SqL K H b ys->xs[i]? = some x∧ys[i]? = some y,
  fun i H=>∃xs ys,SqX K H tp a xs∧SqL K H b ys∧(xs.length≤i∨ys.length≤i)⟩
structure ZipAt(h:Heap)(tp:Bool)(a b z TI TO i1 i2:Addr)(i:Nat):Prop where
 zip:IsZip h z TI TO .none
 its:IsPair h TI (.ref i1) (.ref i2)
 out:∃u v,IsPair h TO u v
 one:SIt h tp i1 a i
 two:SIt h false i2 b i
theorem x0D{P:Program}{w:World}{K:aa}{elts:List Expr}{x1}{tp:Pos}(tb:Bool)(a b z TI TO i1 i2:Addr)(nd:[z,TI,TO,i1,i2].Nodup):
  Turn P w K (.Tuple elts x1 tp) (Itz K tb a b) [z,TI,TO,i1,i2] z (fun i h=>ZipAt h tb a b z TI TO i1 i2 i) where
 mem:=by simp
 obj:=fun i h st c hc=>by
  obtain⟨u,v,ho⟩:=st.out
  obtain⟨o1,e1,_,vs1,d1⟩:=st.one.obj
  obtain⟨o2,e2,_,vs2,d2⟩:=st.two.obj
  simp only [ai,bq,or_false]at hc
  rcases hc with rfl | rfl | rfl | rfl | rfl
  ·exact⟨_,st.zip,fun v z=>by cases z⟩
  ·exact⟨_,st.its,fun v z=>by cases z⟩
  ·exact⟨_,ho,fun v z=>by cases z⟩
  ·exact⟨_,e1,fun v z=>by rw [d1]at z;cases z⟩
  ·exact⟨_,e2,fun v z=>by rw [d2]at z;cases z⟩
 keep:=fun i h h' st k=>by
  obtain⟨u,v,ho⟩:=st.out
  exact⟨k z (by simp) _ st.zip,k TI (by simp) _ st.its,⟨u,v,k TO (by simp) _ ho⟩,st.one.at fun o q=>k i1 (by simp) o q,st.two.at fun o q=>k i2 (by simp) o q⟩
 item:=by
  intro X hP hw hK hc i pins s σ H E I hf st hg
  subst hP hw hK
  obtain⟨xs,ys,x,y,hq1,hq2,hx,hy⟩:=hg
  obtain⟨l1,rv1,p1⟩:=I.seqX hq1
  obtain⟨l2,rv2,p2,_⟩:=I.list hq2
  have p2:SSq s.heap false b l2.toArray:=p2.isList
  obtain⟨u,hu,ru⟩:=rv1.get hx
  obtain⟨v,hv,rv⟩:=rv2.get hy
  obtain⟨q1,q2,hO⟩:=st.out
  obtain⟨o1,e1,c1⟩:=p1.obj
  obtain⟨o2,e2,c2⟩:=p2.obj
  have e2l:o2.cls = .type "list" := by
   obtain⟨o,e,c,_⟩:=(show s.heap.IsList b l2.toArray from p2)
   rw [e2]at e;cases e;exact c
  have az:a≠z:=fun q=>by rw [q,st.zip]at e1;cases e1;rcases c1 with c | c <;> simp at c
  have bz:b≠z:=fun q=>by rw [q,st.zip]at e2;cases e2;simp at e2l
  have bO:b≠TO:=fun q=>by rw [q,hO]at e2;cases e2;simp at e2l
  have b1:b≠i1:=fun q=>by
   obtain⟨o,e,c,_⟩:=st.one.obj
   rw [q,e]at e2;cases e2;rw [e2l]at c;rcases c with c | c <;> simp at c
  have nd':=nd
  simp only [av,ai,bq,or_false,not_or]at nd'
  obtain⟨⟨zI,zO,z1,z2⟩,⟨IO,J1,J2⟩,⟨O1,O2⟩,⟨h12,_⟩⟩:=nd'
  have n1:∀c,c≠z->c∉[z]:=fun c h=>by simpa using h
  have n3:∀c,c≠z->c≠i1->c≠TO->c∉[z,i1,TO]:=fun c h h' h''=>by simp [h,h',h'']
  refine pnx_zip nd st.zip st.its hO (x:=u) (y:=v) (S1:=fun h=>SIt h tb i1 a (i+1)) (S2:=fun h=>SIt h false i2 b (i+1)) (fun A h k=>y2p (st.one.at fun o q=>k _ o (n1 _ (Ne.symm z1)) q) (p1.at fun o q=>k _ o (n1 _ az) q) (by simpa using hu))
   (fun A h k=>y2p (st.two.at fun o q=>k _ o (n3 _ (Ne.symm z2) (Ne.symm h12) (Ne.symm O2)) q) (p2.at fun o q=>k _ o (n3 _ bz b1 bO) q) (by simpa using hv)) (fun h h' t k=>SIt.at t k) (fun h h' t k=>SIt.at t k) fun h1 hz1 hO1 t1 t2 pr kp=>⟨_,rfl,?_⟩
  refine wpAny_letOwnedTupleGo_zip hz1 fun h2 hz2 sb=>?_
  have sb:Heap.SameBut z h1 h2:=sb
  have fpl:∀c∈[z,TI,TO,i1,i2],c<s.heap.objs.size:=fun c hc=>by
   obtain⟨_,e1,_⟩:=st.one.obj
   obtain⟨_,e2,_⟩:=st.two.obj
   simp only [ai,bq,or_false]at hc
   rcases hc with rfl | rfl | rfl | rfl | rfl
   ·exact Heap.lt_size st.zip
   ·exact Heap.lt_size st.its
   ·exact Heap.lt_size hO
   ·exact Heap.lt_size e1
   ·exact Heap.lt_size e2
  have hp:H s.heap.objs.size=none:=I.hok.fresh (ao _)
  have I1:Inv X pins σ (upd H s.heap.objs.size (.tup [x,y])) { s with heap:=s.heap.push ⟨.type "tuple",none,.seq #[u,v] 0,#[]⟩,toks:=s.toks }:=
   I.laid (fun c o q=>Heap.get?_push_of_some _ q) (ao _) (show ObjOk X.prog X.w _ _ _ (.tup [x,y]) from⟨by show 2≤sizeLine;rw [sizeLine_eq];decide,[u,v],.cons ru (.cons rv .nil),TupN.new _ _⟩)
  have hf1:∀c∈[z,TI,TO,i1,i2],y0M X pins (upd H s.heap.objs.size (.tup [x,y])) c:=fun c hc=>by
   obtain⟨f0,f⟩:=hf c hc
   exact⟨by rw [z0q (aC (fpl c hc))];exact f0,f⟩
  have kk:∀c o,c∉[z,TI,TO,i1,i2]->(s.heap.push ⟨.type "tuple",none,.seq #[u,v] 0,#[]⟩).get? c=some o->h2.get? c=some o:=fun c o hc q=>by
   have hcz:c≠z:=fun e=>hc (by simp [e])
   rw [sb.2 c hcz]
   by_cases hcs:c=s.heap.objs.size
   ·subst hcs
    have q2:(s.heap.push ⟨.type "tuple",none,.seq #[u,v] 0,#[]⟩).get? s.heap.objs.size=some ⟨.type "tuple",none,.seq #[u,v] 0,#[]⟩:=Heap.get?_push_size _ rfl
    rw [q2]at q
    cases q
    exact pr
   ·have q':s.heap.get? c=some o:=(Heap.get?_push_ne s.heap _ _ hcs).symm.trans q
    exact kp c o (fun e=>hc (by simp only [ai,bq,or_false]at e ⊢;rcases e with e | e | e | e <;> simp [e])) q'
  have I2:Inv X pins σ (upd H s.heap.objs.size (.tup [x,y])) { s with heap:=h2,toks:=s.toks }:=Inv.turnedL (s:={ s with heap:=s.heap.push ⟨.type "tuple",none,.seq #[u,v] 0,#[]⟩,toks:=s.toks }) (h':=h2) (t':=s.toks) (fp:=[z,TI,TO,i1,i2]) I1 kk hf1
  have up:∀c o,c≠z->h1.get? c=some o->h2.get? c=some o:=fun c o hc q=>(sb.2 c hc).trans q
  refine⟨.ref s.heap.objs.size,_,I2,rfl,⟨_,x,y,hp,rfl,rfl,fun xs' ys' h1 h2=>⟨by rw [I.seqX_inj h1 hq1];exact hx,by rw [I.list_inj h2 hq2];exact hy⟩⟩,
   ⟨hz2,up TI _ (Ne.symm zI) (kp TI _ (by simp [Ne.symm zI,IO,J1,J2]) st.its),⟨u,v,up TO _ (Ne.symm zO) hO1⟩,t1.at fun o q=>up i1 o (Ne.symm z1) q,t2.at fun o q=>up i2 o (Ne.symm z2) q⟩,fun c hc=>(hf1 c hc).1⟩
 done:=by
  intro X hP hw hK hc i pins s σ H E I hf st hg
  subst hP hw hK
  obtain⟨xs,ys,hq1,hq2,hle⟩:=hg
  obtain⟨l1,rv1,p1⟩:=I.seqX hq1
  obtain⟨l2,rv2,p2,_⟩:=I.list hq2
  have p2:SSq s.heap false b l2.toArray:=p2.isList
  obtain⟨q1,q2,hO⟩:=st.out
  obtain⟨o1,e1,c1⟩:=p1.obj
  obtain⟨o2,e2,c2⟩:=p2.obj
  have e2l:o2.cls = .type "list" := by
   obtain⟨o,e,c,_⟩:=(show s.heap.IsList b l2.toArray from p2)
   rw [e2]at e;cases e;exact c
  have az:a≠z:=fun q=>by rw [q,st.zip]at e1;cases e1;rcases c1 with c | c <;> simp at c
  have bz:b≠z:=fun q=>by rw [q,st.zip]at e2;cases e2;simp at e2l
  have bO:b≠TO:=fun q=>by rw [q,hO]at e2;cases e2;simp at e2l
  have b1:b≠i1:=fun q=>by
   obtain⟨o,e,c,_⟩:=st.one.obj
   rw [q,e]at e2;cases e2;rw [e2l]at c;rcases c with c | c <;> simp at c
  have nd':=nd
  simp only [av,ai,bq,or_false,not_or]at nd'
  obtain⟨⟨zI,zO,z1,z2⟩,⟨IO,J1,J2⟩,⟨O1,O2⟩,⟨h12,_⟩⟩:=nd'
  have n1:∀c,c≠z->c∉[z]:=fun c h=>by simpa using h
  have n3:∀c,c≠z->c≠i1->c≠TO->c∉[z,i1,TO]:=fun c h h' h''=>by simp [h,h',h'']
  have hl1:=rv1.length
  have hl2:=rv2.length
  refine pne_zip (I.ok.hd hc) nd st.zip st.its hO ?_ fun h' kp=>⟨rfl,I.turnedL (t':=s.toks) (fp:=[z,TI,TO,i1,i2]) (fun c o hb q=>kp c o (fun e=>hb (by simp only [ai,bq,or_false]at e ⊢;rcases e with e | e | e | e <;> simp [e])) q) hf⟩
  by_cases h1:xs.length≤i
  ·exact .inl fun A hh h k=>x2N hh (st.one.at fun o q=>k _ o (n1 _ (Ne.symm z1)) q) (p1.at fun o q=>k _ o (n1 _ az) q) (by simp;omega)
  ·have h2:ys.length≤i:=hle.resolve_left h1
   have hi:i<l1.length:=by omega
   exact .inr ⟨⟨l1[i],_,fun A h k=>y2p (st.one.at fun o q=>k _ o (n1 _ (Ne.symm z1)) q) (p1.at fun o q=>k _ o (n1 _ az) q) (by simp [hi])⟩,
    fun A hh h k=>x2N hh (st.two.at fun o q=>k _ o (n3 _ (Ne.symm z2) (Ne.symm h12) (Ne.symm O2)) q) (p2.at fun o q=>k _ o (n3 _ bz b1 bO) q) (by simp;omega)⟩
 self:=fun _ _ _ _ _ st h=>wpAny_pyIter_zip st.zip h
def y5E:List D->List D->List D
 |a::r,b::q=>.tup [a,b]::y5E r q
 |_,_=>[]
def zipS:D->D->Option (List D)
 |.tup xs,.lst ys=>some (y5E xs ys)
 |.lst xs,.lst ys=>some (y5E xs ys)
 |_,_=>none
def dZip(f g:DE):DS->Option (List D):=fun δ=>(f δ).bind fun a=>(g δ).bind fun b=>zipS a b
theorem y7T:∀{ds es:List D} {i:Nat} {d e:D},ds[i]? = some d->es[i]? = some e->(y5E ds es)[i]? = some (.tup [d,e])
 |x::r,y::q,0,d,e,h,h'=>by cases h;cases h';rfl
 |x::r,y::q,i+1,d,e,h,h'=>y7T (ds:=r) (es:=q) h h'
theorem y2x:∀{ds es:List D},(y5E ds es).length=min ds.length es.length
 |[],_=>by simp [y5E]
 |_::_,[]=>by simp [y5E]
 |x::r,y::q=>by
  show(y5E r q).length+1=min (r.length+1) (q.length+1)
  rw [y2x]
  omega
theorem y8H{K:aa}{H:Hp}{B:Addr->Prop}{tp:Bool}{a b:Addr}{xs ys:List V}{ds es:List D}(hs:∀H',Keep K B H H'->SqX K H' tp a xs)(hs2:∀H',Keep K B H H'->SqL K H' b ys)(r:Reps K H B ds xs)(r2:Reps K H B es ys):ItD K (Itz K tp a b) H B (y5E ds es):=by
 have hl:=r.length
 have hl2:=r2.length
 refine⟨fun i H' kp hi=>?_,fun i H' kp hi=>?_,fun i H' v H2 kp hy=>?_⟩
 ·rw [y2x]at hi
  exact⟨xs,ys,xs[i]'(by omega),ys[i]'(by omega),hs H' kp,hs2 H' kp,ac _,ac _⟩
 ·rw [y2x]at hi
  exact⟨xs,ys,hs H' kp,hs2 H' kp,by omega⟩
 ·obtain⟨p,x,y,hp,rfl,rfl,hx⟩:=hy
  obtain⟨hx,hy⟩:=hx xs ys (hs H' kp) (hs2 H' kp)
  obtain⟨d,e,rd⟩:=(Reps.keep kp ds r).get' hx
  obtain⟨d2,e2,rd2⟩:=(Reps.keep kp es r2).get' hy
  refine⟨z0n hp,.tup [d,d2],fun _=>y7T e e2,?_⟩
  unfold Rep
  exact⟨p,_,rfl,SqT.of z0m,.cons (rd.mono (z0n hp)) (.one (rd2.mono (z0n hp)))⟩
def iZip(K:aa)(ta:TA):TI:=fun σ H R=>ta σ H fun vs H1=>∃tp a b,vs=[V.ref a,V.ref b]∧(∃xs,SqX K H1 tp a xs)∧(∃ys,SqL K H1 b ys)∧R (Itz K tp a b) H1
theorem pi_zip{X:Cx}{elts:List Expr}{x1}{tp p pos:Pos}{l m:Expr}{ta:TA}(hg:Gl X "zip")(hm:X.mg "zip" = none)(ha:PA X [l,m] ta)(hs:starEach [l,m] X.env=[(false,eval l X.env),(false,eval m X.env)]:=by rfl)(hs2:starEach [m] X.env=[(false,eval m X.env)]:=by rfl):
  PI X (.Tuple elts x1 tp) (.Call (.Name "zip" p) [l,m] [] pos) (iZip X.K ta):=by
 intro pins s σ H R I h
 refine wpAny_Call_Name_kw (z4r I hg hm boot_zip (PyProof.Rows.callWith_type1 (thn (ha pos pins s σ H _ I h) fun us s1 ⟨vs,H1,I1,r1,q1⟩=>?_) (by rw [hs,hs2]) (by rw [hs2];rfl)))
 obtain⟨tb,a,b,rfl,⟨xs,hq1⟩,⟨ys,hq2⟩,q⟩:=q1
 cases r1 with
 |cons ru r1=>
  obtain⟨v,rfl,rv⟩:=Vals.one r1
  cases ru
  cases rv
  obtain⟨l1,rv1,p1⟩:=I1.seqX hq1
  obtain⟨l2,rv2,p2,_⟩:=I1.list hq2
  have nd:[s1.heap.objs.size+4,s1.heap.objs.size+2,s1.heap.objs.size+3,s1.heap.objs.size,s1.heap.objs.size+1].Nodup:=by
   generalize s1.heap.objs.size=n
   show List.Nodup [(n+4:Nat),n+2,n+3,n,n+1]
   simp
  have fin:∀h',ZipAt h' tb a b (s1.heap.objs.size+4) (s1.heap.objs.size+2) (s1.heap.objs.size+3) s1.heap.objs.size (s1.heap.objs.size+1) 0->(∀c o,s1.heap.get? c=some o->h'.get? c=some o) →
    wpAny (model X.prog X.w) X.A (pyIter (.ref (s1.heap.objs.size+4))) (PIE X pins σ (.Tuple elts x1 tp) R) X.xe { s1 with heap:=h' }:=fun h' st kp=>by
   refine wpAny_pyIter_zip st.zip ?_
   have I2:Inv X pins σ H1 { s1 with heap:=h' }:=I1.kept (t':=s1.toks) kp
   refine⟨s1.heap.objs.size+4,[s1.heap.objs.size+4,s1.heap.objs.size+2,s1.heap.objs.size+3,s1.heap.objs.size,s1.heap.objs.size+1],_,_,H1,rfl,I2,x0D tb a b _ _ _ _ _ nd,st,fun c hc=>?_,q⟩
   have hc':s1.heap.objs.size≤c:=by
    simp only [ai,bq,or_false]at hc
    rcases hc with rfl | rfl | rfl | rfl | rfl
    ·exact c8 _ _
    ·exact c8 _ _
    ·exact c8 _ _
    ·exact ao _
    ·exact c8 _ _
   exact I1.fpOk hc' (I1.hok.fresh hc')
  cases tb with
  |true=>exact y8K p1 p2.isList fun h' z1 z2 z3 z4 z5 kp=>fin h' ⟨z1,z2,⟨_,_,z3⟩,z4,z5⟩ kp
  |false=>exact call_zip_2 p1 p2.isList fun h' z1 z2 z3 z4 z5 _ kp=>fin h' ⟨z1,z2,⟨_,_,z3⟩,z4,z5⟩ kp
theorem pi_zipD{X:Cx}{elts:List Expr}{x1}{tp p pos:Pos}{l m:Expr}{f g:DE}(hg:Gl X "zip")(hm:X.mg "zip" = none)(h1:PD X l f)(h2:PD X m g)(hs:starEach [l,m] X.env=[(false,eval l X.env),(false,eval m X.env)]:=by rfl)(hs2:starEach [m] X.env=[(false,eval m X.env)]:=by rfl):
  PID X (.Tuple elts x1 tp) (.Call (.Name "zip" p) [l,m] [] pos) (dZip f g):=(pi_zip hg hm (z0a h1 (z0a h2 z0c hs2) (by rw [hs,hs2])) hs hs2).imp fun σ H R ⟨B,δ,ds,hB,S,q,k⟩=>by
 unfold dZip at q
 cases e1:f δ with
 |none=>rw [e1]at q;cases q
 |some d1=>
 rw [e1]at q
 cases e2:g δ with
 |none=>rw [e2]at q;cases q
 |some d2=>
 rw [e2]at q
 have q':zipS d1 d2=some ds:=q
 have ea:z0o [f,g] δ=some [d1,d2]:=by unfold z0o z0o;rw [e1,e2];rfl
 refine⟨B,δ,[d1,d2],hB,S,ea,fun vs H1 s1 r1=>?_⟩
 unfold Reps at r1
 obtain⟨x,r,rfl,rx,rr⟩:=r1
 unfold Reps at rr
 obtain⟨y,r',rfl,ry,rr⟩:=rr
 unfold Reps at rr
 subst rr
 unfold zipS at q'
 split at q'
 ·cases q'
  unfold Rep at rx ry
  obtain⟨a,xs,rfl,h,rxs⟩:=rx
  obtain⟨b,ys,rfl,n,h',rys⟩:=ry
  refine⟨true,a,b,rfl,⟨xs,h⟩,⟨ys,SqL.of h'⟩,k _ H1 s1 fun C hC=>?_⟩
  have nb:¬ (B b∨C b):=fun z=>z.elim n fun z=>by rw [hC b z]at h';cases h'
  exact y8H (xs:=xs) (ys:=ys) (fun H' kp=>kp.st a xs h) (fun H' kp=>SqL.of (kp.sl b ys nb h')) (Reps.wide hC _ rxs) (Reps.wide hC _ rys)
 ·cases q'
  unfold Rep at rx ry
  obtain⟨a,xs,rfl,n1,h,rxs⟩:=rx
  obtain⟨b,ys,rfl,n,h',rys⟩:=ry
  refine⟨false,a,b,rfl,⟨xs,SqL.of h⟩,⟨ys,SqL.of h'⟩,k _ H1 s1 fun C hC=>?_⟩
  have na:¬ (B a∨C a):=fun z=>z.elim n1 fun z=>by rw [hC a z]at h;cases h
  have nb:¬ (B b∨C b):=fun z=>z.elim n fun z=>by rw [hC b z]at h';cases h'
  exact y8H (xs:=xs) (ys:=ys) (fun H' kp=>SqL.of (kp.sl a xs na h)) (fun H' kp=>SqL.of (kp.sl b ys nb h')) (Reps.wide hC _ rxs) (Reps.wide hC _ rys)
 ·cases q'
end L2
namespace L2
open PySem PySem.Spec PyProof.Rows
section
variable{ob:Addr->Obj}{L:Addr->Bool}{H:Hp}{a:Addr}
end
section
variable{K:aa}{ob:Addr->Obj}{L:Addr->Bool}{H0 H:Hp}{B B0:Addr->Prop}{σ:St}{δ:SS}{R:Nat->List Addr}
end
section
variable{K:aa}{ob:Addr->Obj}{L:Addr->Bool}{H:Hp}
end
section
variable{X:Cx}{H0:Hp}{B0:Addr->Prop}{fr:Bool}{RX:XR}{st:Stmt}
end
end L2
namespace L2
open PySem PySem.Spec PyProof.Rows
section
variable{X:Cx}
variable{a b:Expr}{f g:DE}{pos:Pos}
end
end L2
namespace PySem
section
variable{prog:Program}{w:World}{A:Around}{E:Value->Shared->Prop}{s:Shared}
set_option maxHeartbeats 3200000 in
open PyProof.Rows in
end
end PySem
namespace L2
open PySem PySem.Spec PyProof.Rows
section
variable{X:Cx}{e:Expr}{te:TE}{p p' pos pos':Pos}
variable{f:DE}
end
end L2
namespace L2
open PySem PySem.Spec PyProof.Rows
section
variable{X:Cx}{ka va kb vb:Expr}{pos:Pos}{fa fb fc fd:DE}
end
end L2
namespace L2
open PySem PySem.Spec PyProof.Rows
section
variable{X:Cx}{N':List Str}{sc:Scope}{iter elt:Expr}{ifs:List Expr}{n:Nat}{x x':Str}{px px' tp pos:Pos}{x1:Nat}{fi:DS->Option (List D)}{fc:DS->Option Bool}{fe:DE}
end
end L2
namespace L2
open PySem PySem.Spec PyProof.Rows
section
variable{P:Program}{w:World}{K:aa}{mg:Str->Option Value}{base:Heap}
end
section
variable{X:Cx}{k:Nat}{sp:Sp}{cl:Nat->Value}{RX:XR}{x:Str}{p pos pos2:Pos}{e:Expr}{es:List Expr}{t:TA}
variable{H0:Hp}{B0:Addr->Prop}{fr:Bool}{F:DS->Option XO}
end
end L2
namespace L2
open PySem PySem.Spec PyProof.Rows
section
variable{K:aa}{H:Hp}{B:Addr->Prop}{m:Addr}{c:Int}{ys:List V}
end
section
variable{K:aa}{H0 H H':Hp}{B0:Addr->Prop}{σ:St}{δ:SS}{R:Nat->List Addr}
end
section
variable{X:Cx}{H0:Hp}{B0:Addr->Prop}{fr:Bool}{RX:XR}{st1:Stmt}{sts:List Stmt}{f:DE}{x:Str}{px p2 ap cp pos:Pos}{ke e:Expr}
end
end L2
namespace L2
open PySem PySem.Spec PyProof.Rows
section
variable{X:Cx}{a b c e o:Expr}{f g h:DE}{p pos apos cpos p2:Pos}{tg:Expr}
end
end L2
namespace L2
open PySem PySem.Spec PyProof.Rows
instance{i j:Int}:Decidable (x2f i j):=by unfold x2f;infer_instance
def divN:D->D->Option D:=iop fun i j=>if x2f i j then some (.int (i.fdiv j))else none
def absF:List D->Option D
 |[.int n]=>some (.int (if n<0 then -n else n))
 |_=>none
section
variable{X:Cx}{a b e:Expr}{f g:DE}{p pos:Pos}
theorem pd_divN(ha:PD X a f)(hb:PD X b g):PD X (.BinOp a .FloorDiv b pos) (d2 divN f g):=y1I x0g y0H ha hb
theorem oa_abs{K:aa}:OpA K (fun xs H Q=>∃n:Int,xs=[.int n]∧Q (.int (if n<0 then -n else n)) H) absF:=by
 intro H B ds d vs Q hB hr q k
 unfold absF at q
 split at q
 ·cases q
  obtain⟨v,rfl,r⟩:=z3w hr
  unfold Rep at r
  subst r
  exact⟨_,rfl,k _ H (.refl H) rfl⟩
 ·cases q
theorem pd_abs(hg:Gl X "abs")(hm:X.mg "abs" = none)(h:PD X e f)(he:starEach [e] X.env=[(false,eval e X.env)]:=by rfl):PD X (.Call (.Name "abs" p) [e] [] pos) (z0i absF [f]):=
 z2s x1S oa_abs hg hm boot_abs (z0a h z0c he) (by decide) (by decide) he rfl
end
end L2
namespace L2
open PySem PySem.Spec PyProof.Rows
structure MethOk(P:Program)(w:World)(K:aa)(mg:Str->Option Value)(base:Heap)(k:Nat)(cn m:Str)(sp:Sp):Prop where
 ok:∃(C f:Addr) (fd:FuncData) (ps:List Str),aO K mainGlobals cn=some (some (.ref C))∧L2.Cls K C∧Meth K C m f∧Binds K fd ps []∧FnOk P w K mg base CX0 k f fd ps sp
section
variable{X:Cx}{e o:Expr}{es:List Expr}{pos apos p px cp:Pos}{f m cn:Str}{k:Nat}
end
section
variable{P:Program}{w:World}{K:aa}{mg:Str->Option Value}{base:Heap}
end
section
variable{X:Cx}{e:Expr}{es:List Expr}{pos apos p px cp:Pos}{fn m cn x:Str}{k i:Nat}{F:List D->Option (D×D)}{fl:List DE}
variable{H0:Hp}{B0:Addr->Prop}{fr:Bool}{RX:XR}
end
end L2
namespace L2
open PySem PySem.Spec PyProof.Rows
section
variable{X:Cx}{e value:Expr}{es:List Expr}{pos pos' apos ap p px cp:Pos}{fn m cn x f:Str}{k i:Nat}{fl:List DE}{H0:Hp}{B0:Addr->Prop}{fr:Bool}{RX:XR}{g:DE}
def bkKs:List Str:=["thing_count", "entries", "earlier", "next_number"]
def bk4{α:Type}(a b c d:α):List (Str×α):=[("thing_count",a),("entries",b),("earlier",c),("next_number",d)]
end
section
variable{P:Program}{w:World}{K:aa}{mg:Str->Option Value}{base:Heap}
def spI(K:aa):Sp:=fun vs H Q _=>∃(a C dx:Addr) (m:Int),vs=[.ref a,.int m]∧H a=some (.ins C dx [])∧y5n K C bkKs=true ∧
 ∀l1 l2 H',H l1=none->H l2=none->l1≠l2->H' a=some (.ins C dx (bk4 (.int m) (.ref l1) (.ref l2) (.int 0)))->H' l1=some (.lst [])->H' l2=some (.lst [])->(∀b o,b≠a->H b=some o->H' b=some o)->(∀b,H' b=none->H b=none)->Q .non H'
end
structure NewOk(P:Program)(w:World)(K:aa)(mg:Str->Option Value)(base:Heap)(k:Nat)(cn:Str):Prop where
 ok:∃(C fi:Addr) (fd:FuncData) (ps:List Str),Mk K C fi∧mg cn=some (.ref C)∧aO K mainGlobals cn=some (some (.ref C))∧y5n K C bkKs=true∧Binds K fd ps []∧FnOk P w K mg base CX0 k fi fd ps (spI K)
section
variable{X:Cx}{e value:Expr}{es:List Expr}{pos pos' apos ap p px cp:Pos}{fn m cn x f:Str}{k i:Nat}{fl:List DE}{H0:Hp}{B0:Addr->Prop}{fr:Bool}{RX:XR}{g:DE}
end
section
variable{X:Cx}{o e:Expr}{pos ap cp:Pos}{fl:List DE}{f:DE}{H0:Hp}{B0:Addr->Prop}{fr:Bool}{RX:XR}
end
end L2
namespace L2
open PySem PySem.Spec PyProof.Rows
section
variable{X:Cx}{H0:Hp}{B0:Addr->Prop}{fr:Bool}{RX:XR}{e:Expr}{pos ap cp ap2 cp2:Pos}{x y:Str}{px py:Pos}
end
end L2
namespace L2
open PySem PySem.Spec PyProof.Rows
structure MethX(P:Program)(w:World)(K:aa)(mg:Str->Option Value)(base:Heap)(k:Nat)(cn m:Str)(sp:Sp):Prop where
 ok:∃(C f:Addr) (fd:FuncData) (ps:List Str),aO K mainGlobals cn=some (some (.ref C))∧L2.Cls K C∧Meth K C m f∧Binds K fd ps []∧FnOk P w K mg base (CXE P w) k f fd ps sp
section
variable{X:Cx}{k:Nat}{sp:Sp}{cl:Nat->Value}{RX:XR}{o e:Expr}{es:List Expr}{pos apos:Pos}{m cn:Str}{ta:TE}{t:TA}{C f:Addr}{fd:FuncData}{ps:List Str}
end
section
variable{X:Cx}{x:Str}{px px2 p1 p2 p3 pos pos':Pos}{i:Nat}{H0:Hp}{B0:Addr->Prop}{fr:Bool}{RX:XR}
end
end L2
namespace L2
open PySem PySem.Spec PyProof.Rows
inductive BO where
 |val (o d:D) | exc (c:Nat) (o:D)
section
variable{P:Program}{w:World}{K:aa}{mg:Str->Option Value}{base:Heap}
end
section
variable{X:Cx}{e:Expr}{es:List Expr}{pos apos p px cp:Pos}{fn m cn x:Str}{k i:Nat}{F:List D->Option BO}{fl:List DE}{cl:Nat->Value}{RX:XR}
end
inductive BR where
 |val (d:D) (δ:SS) | exc (c:Nat) (δ:SS)
section
variable{X:Cx}{e:Expr}{i:Nat}{F:List D->Option BO}{G:List D->Option (D×D)}{fl:List DE}{H0:Hp}{B0:Addr->Prop}{fr:Bool}{RX:XR}{pos p2:Pos}{g h:SS->Option Out}{a b:List Stmt}
end
end L2
namespace L2
open PySem PySem.Spec PyProof.Rows
section
variable{X:Cx}{RX:XR}{a b c:Expr}{pos:Pos}{f g:DE}{F:DS->Option XO}
end
section
variable{X:Cx}{e e2 e3:Expr}{i:Nat}{F:List D->Option BO}{fl:List DE}{H0:Hp}{B0:Addr->Prop}{fr:Bool}{RX:XR}{pos p2 p3:Pos}{g h:SS->Option Out}{f2 f3:DE}{a b:List Stmt}
end
end L2
namespace L2
open PySem PySem.Spec PyProof.Rows
structure RoomH(k:Nat)(A:Around):Prop where
 dp:A.depth+3*k+5<recursionLimit
 un:A.units+16*k+200<cLine
structure FnOkH(P:Program)(w:World)(K:aa)(mg:Str->Option Value)(base:Heap)(k:Nat)(f:Addr)(fd:FuncData)(ps:List Str)(sp:Sp):Prop where
 len:∀vs H Q E,sp vs H Q E->vs.length=ps.length
 run:∀(A:Around) (outer:List Env) (s:Shared) (H:Hp) (args:Args) (us:List Value) (vs:List V) (Q:VK) (E:XK),RoomH k A->Env0 P w K mg base A outer s H->BindsTo s fd args (ps.zip us)->Vals vs us->sp vs H Q E →
  codeAny (model P w) A (.call (.ref f) args) (CR CX0 outer P w H s Q E) s
structure DefH(P:Program)(w:World)(K:aa)(mg:Str->Option Value)(base:Heap)(k:Nat)(x:Str)(sp:Sp):Prop where
 ok:∃(f:Addr) (fd:FuncData) (ps:List Str),mg x=some (.ref f)∧bV K (.ref f)=true∧Binds K fd ps []∧FnOkH P w K mg base k f fd ps sp
section
variable{P:Program}{w:World}{K:aa}{mg:Str->Option Value}{base:Heap}
end
section
variable{X:Cx}{k:Nat}{x:Str}{e:Expr}{es:List Expr}{p pos:Pos}
end
end L2
namespace L2
open PySem PySem.Spec PyProof.Rows
section
variable{X:Cx}{e e2:Expr}{pos p2:Pos}{H0:Hp}{B0:Addr->Prop}{fr:Bool}{RX:XR}{a b:List Stmt}{g h:SS->Option Out}{τ υ:SS->Option (Bool×SS)}{i:Nat}
end
end L2
namespace L2
open PySem PySem.Spec PyProof.Rows
section
variable{X:Cx}{e:Expr}{x:Str}{pos ap cp px p2 p3:Pos}{H0:Hp}{B0:Addr->Prop}{fr:Bool}{RX:XR}{i:Nat}{f:DE}
end
abbrev F3:=D->List D->D->Option (D×List D×D)
section
variable{P:Program}{w:World}{K:aa}{mg:Str->Option Value}{base:Heap}
end
section
variable{X:Cx}{e:Expr}{p px py cp:Pos}{fn x y:Str}{k i j:Nat}{F:F3}{f:DE}{H0:Hp}{B0:Addr->Prop}
end
end L2
namespace L2
open PySem PySem.Spec PyProof.Rows
def ThrW(h:Heap)(e T:Addr)(cls w:Value):Prop:=∃oe vs oT ts,h.get? e=some oe∧oe.cls=cls∧oe.data = .fields vs∧vs[1]? = some (.ref T)∧T≠e∧h.get? T=some oT∧oT.data = .fields ts∧ts[3]? = some w∧oe.dict=none
structure GoneW(S ch:List Addr)(e:Addr)(cls w:Value)(h h':Heap):Prop where
 keep:∀b o,b∉S->b∉ch->h.get? b=some o->h'.get? b=some o
 slot:∀b o,b∈S->b∉ch->h.get? b=some o->∃sl,h'.get? b=some { o with slots:=sl }
 there:∀b o,h.get? b=some o->∃o',h'.get? b=some o'
 thr:∃T,h.objs.size≤T∧ThrW h' e T cls w
section
variable{M:Model}{A:Around}{E:Value->Shared->Prop}{s:Shared}
end
section
variable{P:Program}{w:World}{K:aa}{mg:Str->Option Value}{base:Heap}
end
section
variable{X:Cx}{N':List Str}{k:Nat}{sc:Scope}{pins:List (Addr×Obj)}{σ:St}{H:Hp}{s:Shared}{fp:List Addr}{cl:Nat->Value}{RXc:Nat->Hp->Prop}{use:Option (Value->Sem Unit)}{Q:Value->Shared->Prop}{acc:Value}
end
end L2
namespace L2
open PySem PySem.Spec PyProof.Rows
section
variable{X:Cx}{st:Stmt}{g h:SS->Option Out}{H0:Hp}{B0:Addr->Prop}{fr:Bool}{RX:XR}
end
section
variable{X:Cx}{N':List Str}{k n:Nat}{sc:Scope}{tg iter elt e:Expr}{ifs:List Expr}{pos p cp rpos px:Pos}{x:Str}{gt:TG}{tc:TT}{te:TE}{wi:TI}{cl:Nat->Value}{RXc:Nat->Hp->Prop}{fi:DS->Option (List D)}{F:DS->Option XO}{H0:Hp}{B0:Addr->Prop}{fr:Bool}{RX:XR}
end
end L2
namespace L2
open PySem PySem.Spec PyProof.Rows
section
variable{X:Cx}{a b c e o:Expr}{f g h:DE}{p pos apos cpos p2:Pos}{tg:Expr}
end
end L2
namespace L2
open PySem PySem.Spec PyProof.Rows
section
variable{X:Cx}{a b c e o:Expr}{f g h:DE}{p pos:Pos}{x:Str}{tbl:List (Str×List Str)}
end
end L2
namespace L2
open PySem PySem.Spec PyProof.Rows
section
variable{X:Cx}{pos:Pos}
end
end L2
namespace L2
open PySem PySem.Spec PyProof.Rows
section
variable{X:Cx}{N':List Str}{k n:Nat}{sc:Scope}{tg iter elt e:Expr}{ifs:List Expr}{pos p cp rpos px ap:Pos}{x y:Str}{gt:TG}{tc:TT}{te:TE}{wi:TI}{cl:Nat->Value}{RXc:Nat->Hp->Prop}{fi:DS->Option (List D)}{F:DS->Option XO}{H0:Hp}{B0:Addr->Prop}{fr:Bool}{RX:XR}
end
end L2
namespace L2
open PySem PySem.Spec PyProof.Rows
section
variable{X:Cx}{pos:Pos}
end
section
variable{X:Cx}{H0:Hp}{B0:Addr->Prop}{fr:Bool}{RX:XR}
theorem sb{st:Stmt}{g:SS->Option Out}(h:PS X st (tS X.K H0 B0 fr RX g)):PSb X st (tS X.K H0 B0 fr RX g):=by
 unfold PSb
 exact h
end
end L2
namespace L2
open PySem PySem.Spec PyProof.Rows
section
variable{X:Cx}{H0:Hp}{B0:Addr->Prop}{fr:Bool}{RX:XR}{i:Nat}{x:Str}{es:List Expr}{lp p pos':Pos}
end
end L2
namespace L2
open PySem PySem.Spec PyProof.Rows
def FnG(K:aa)(x:Str)(st:Stmt):Prop:=∃f fd,aO K mainGlobals x=some (some (.ref f))∧Fun K x x st f fd
def FnB(K:aa)(mg:Str->Option Value)(x:Str)(st:Stmt)(ps:List Str):Prop:=∃f fd,Fun K x x st f fd∧mg x=some (.ref f)∧Binds K fd ps []
section
variable{K:aa}{x:Str}{st:Stmt}{h:Heap}{mg:Str->Option Value}
theorem fg_of{ps:List Str}(X:K.In h)(G:h.Ns mainGlobals mg)(F:FnG K x st)(hb:∀(kV doc pm:Value) (an:Option Addr) (cdv ct:Value) (us:List Value),us.length=ps.length->bindArgs (bK x x (z2L st) (z1q st) (z0e st) .none kV doc pm an cdv ct) ⟨us,[]⟩=pure (ps.zip us)):FnB K mg x st ps:=
 let⟨f,fd,a,F⟩:=F
 ⟨f,fd,F,d8 X G a,F.binds hb⟩
theorem fg1{p0:Str}(X:K.In h)(G:h.Ns mainGlobals mg)(F:FnG K x st)(hb:∀(kV doc pm:Value) (an:Option Addr) (cdv ct u0:Value),bindArgs (bK x x (z2L st) (z1q st) (z0e st) .none kV doc pm an cdv ct) ⟨[u0],[]⟩=pure ([p0].zip [u0]):=by intros;rfl):FnB K mg x st [p0]:=
 fg_of X G F fun _ _ _ _ _ _ us hl=>match us,hl with | [_],_=>hb _ _ _ _ _ _ _
theorem fg2{p0 p1:Str}(X:K.In h)(G:h.Ns mainGlobals mg)(F:FnG K x st)(hb:∀(kV doc pm:Value) (an:Option Addr) (cdv ct u0 u1:Value),bindArgs (bK x x (z2L st) (z1q st) (z0e st) .none kV doc pm an cdv ct) ⟨[u0,u1],[]⟩=pure ([p0,p1].zip [u0,u1]):=by intros;rfl):FnB K mg x st [p0,p1]:=
 fg_of X G F fun _ _ _ _ _ _ us hl=>match us,hl with | [_,_],_=>hb _ _ _ _ _ _ _ _
theorem fg3{p0 p1 p2:Str}(X:K.In h)(G:h.Ns mainGlobals mg)(F:FnG K x st)(hb:∀(kV doc pm:Value) (an:Option Addr) (cdv ct u0 u1 u2:Value),bindArgs (bK x x (z2L st) (z1q st) (z0e st) .none kV doc pm an cdv ct) ⟨[u0,u1,u2],[]⟩=pure ([p0,p1,p2].zip [u0,u1,u2]):=by intros;rfl):FnB K mg x st [p0,p1,p2]:=
 fg_of X G F fun _ _ _ _ _ _ us hl=>match us,hl with | [_,_,_],_=>hb _ _ _ _ _ _ _ _ _
theorem FnB.on{ps:List Str}{C:Prop}(B:FnB K mg x st ps)(k:∀{f:Addr} {fd:FuncData},Fun K x x st f fd->mg x=some (.ref f)->Binds K fd ps []->C):C:=
 let⟨_,_,F,m,b⟩:=B
 k F m b
theorem z0G{N P:List Str}{sc:Scope}(h:N.Nodup∧(∀x∈P,sc.names.lookup x=some .local∨sc.names.lookup x=some .cell)∧∀y∈sc.names,y.2≠.free:=by decide +kernel)(h1:sc.kind = .function:=by rfl)(h2:sc.isCoroutine=false:=by rfl)(h3:sc.isGenerator=false:=by rfl)(h4:N.take P.length=P:=by rfl):FnScope N P sc:=
 ⟨h1,h2,h3,h.1,h4,h.2.1,h.2.2⟩
end
end L2
namespace L2
open PySem PySem.Spec PyProof.Rows
section
variable{X:Cx}{a b e:Expr}{f:DE}{F:DS->Option XO}{RX:XR}{pos:Pos}{tb:TE}
end
end L2
namespace L2
open PySem
theorem y8h{np nl:Nat}{g:SS->Option Out}{ds:List D}{d:D}(hl:ds.length=np)(e:g (ds.map (fun d=>some (.sh d))++ak nl none)=some (.rt d)):z1s np nl g ds=some d:=by
 unfold z1s
 rw [if_pos hl,e]
theorem z4h{n:Nat}(h:n≤1000000):n≤sizeLine:=by rw [PySem.sizeLine_eq];omega
def bD(b:Bool):D:=.bl b
def z2v(r:List Bool):D:=.lst (r.map bD)
def z0A(T:List (List Bool)):D:=.lst (T.map z2v)
theorem z8v{ds:List D}{k:Nat}{d:D}(h:ds[k]? = some d):ixD (.lst ds) (.int (k:Int))=some d:=y2V h
theorem z7r:∀bs:List Bool,z6h (bs.map bD)=some bs
 |[]=>rfl
 |b::bs=>by
  show(z6h (bs.map bD)).map (b :: ·)=_
  rw [z7r bs]
  rfl
theorem z1c:∀r:List Bool,z1P (r.map bD)=true
 |[]=>rfl
 |b::r=>by
  show(true&&z1P (r.map bD))=true
  rw [z1c r]
  rfl
end L2
namespace L2
open PySem
theorem row_ix{r:List Bool}{k:Nat}(h:k<r.length):ixD (z2v r) (.int (k:Int))=some (.bl r[k]):=z8v (by rw [aN,ac h];rfl)
theorem tab_ix{T:List (List Bool)}{k:Nat}(h:k<T.length):ixD (z0A T) (.int (k:Int))=some (z2v T[k]):=z8v (by rw [aN,ac h];rfl)
theorem y2r{n k:Nat}(h:k<n):ixN n (k:Int)=some k:=by
 unfold ixN
 rw [if_pos (by omega),if_pos (by omega)]
 simp
def Sq(n:Nat)(T:List (List Bool)):Prop:=T.length=n∧∀r∈T,r.length=n
theorem Sq.row{n:Nat}{T:List (List Bool)}(h:Sq n T){k:Nat}(hk:k<T.length):T[k].length=n:=h.2 _ (aR hk)
theorem Sq.set{n:Nat}{T:List (List Bool)}(h:Sq n T){a b:Nat}{v:Bool}(ha:a<T.length):Sq n (T.set a (T[a].set b v)):=by
 refine⟨by simp [h.1],fun r hr=>?_⟩
 rcases List.mem_or_eq_of_mem_set hr with z | z
 ·exact h.2 r z
 ·subst z
  rw [cQ]
  exact h.row ha
end L2
namespace L2
open PySem
def hol{α:Type}(x:Option α)(Q:α->Prop):Prop:=∃a,x=some a∧Q a
section
variable{α β:Type}{Q:α->Prop}{R:β->Prop}
theorem z0b{a:α}:hol (some a) Q=Q a:=propext ⟨fun⟨_,e,q⟩=>by cases e;exact q,fun q=>⟨a,rfl,q⟩⟩
theorem hol_is{x:Option α}{a:α}:hol x (fun b=>b=a)↔x=some a:=⟨fun⟨_,e,q⟩=>q ▸ e,fun e=>⟨a,e,rfl⟩⟩
end
def asB:D->Option Bool
 |.bl b=>some b
 |_=>none
section
variable{Q:D->Prop}{QB:Bool->Prop}{QL:List D->Prop}{QO:Out->Prop}{δ:DS}{s:SS}{f g h:DE}{F:D->D->Option D}
theorem ho_var0{x:Option D}{r:DS}:z0d 0 (x::r)=x:=by cases x <;> rfl
def owA(i:Nat)(s:SS):Option D:=match s[i]? with
 |some (some (.ow d))=>some d
 |_=>none
theorem z0r{np nl:Nat}{b:SS->Option Out}{ds:List D}{d:D}(hl:ds.length=np)(h:hol (b (ds.map (fun d=>some (.sh d))++ak nl none)) fun o=>o = .rt d):z1s np nl b ds=some d:=y8h hl (hol_is.mp h)
theorem z6C{np nl:Nat}{b:SS->Option Out}{ds:List D}(hl:ds.length=np)(h:hol (b (ds.map (fun d=>some (.sh d))++ak nl none)) fun o=>∃d,o = .rt d∧Q d):hol (z1s np nl b ds) Q:=by
 obtain⟨o,e,d,rfl,q⟩:=h
 exact⟨d,y8h hl e,q⟩
theorem y5K{i:Nat}{b:SS->Option Out}{ds:List D}{s:SS}(I:Nat->SS->Prop)(h0:I 0 s)(hs:∀n (h:n<ds.length) δ,I n δ->hol (b (δ.set i (some (.sh ds[n])))) fun o=>match o with | .nx δ'=>I (n+1) δ' | .ct δ'=>I (n+1) δ' | .bk δ'=>QO (.nx δ') | .rt d=>QO (.rt d) | .rb d δ'=>QO (.rb d δ') | .ex c δ'=>QO (.ex c δ'))(he:∀δ,I ds.length δ->QO (.nx δ)):hol (z6j i b ds s) QO:=by
 induction ds generalizing s I with
 |nil=>exact⟨_,rfl,he _ h0⟩
 |cons x r ih=>
  obtain⟨o,e,q⟩:=hs 0 (by simp) s h0
  have e:b (s.set i (some (.sh x)))=some o:=e
  have step:∀s1,I 1 s1->hol (z6j i b r s1) QO:=fun s1 h1=>ih (fun n=>I (n+1)) h1 (fun n hn δ hI=>by
   have:=hs (n+1) (by simpa using hn) δ hI
   simpa using this) fun δ hI=>he δ (by simpa using hI)
  unfold z6j
  rw [e]
  cases o with
  |nx s1=>exact step s1 q
  |ct s1=>exact step s1 q
  |bk s1=>exact⟨_,rfl,q⟩
  |rt d=>exact⟨_,rfl,q⟩
  |rb d s1=>exact⟨_,rfl,q⟩
  |ex c s1=>exact⟨_,rfl,q⟩
theorem z3j{i:Nat}{b:SS->Option Out}{lo:Int}{m:Nat}{s:SS}(I:Nat->SS->Prop)(h0:I 0 s)(hs:∀n,n<m->∀δ,I n δ->hol (b (δ.set i (some (.sh (.int (lo+(n:Int))))))) fun o=>match o with | .nx δ'=>I (n+1) δ' | .ct δ'=>I (n+1) δ' | .bk δ'=>QO (.nx δ') | .rt d=>QO (.rt d) | .rb d δ'=>QO (.rb d δ') | .ex c δ'=>QO (.ex c δ'))(he:∀δ,I m δ->QO (.nx δ)):hol (z6j i b (z4p lo m) s) QO:=by
 refine y5K I h0 (fun n hn δ hI=>?_) fun δ hI=>he δ (by simpa [z4p] using hI)
 have hn':n<m:=by simpa [z4p] using hn
 have:=hs n hn' δ hI
 simpa [z4p] using this
theorem z2I{α:Type}{enc:α->D}{i:Nat}{b:SS->Option Out}{xs:List α}{s:SS}(I:List α->SS->Prop)(h0:I [] s)(hs:∀pre x post,xs=pre++x::post->∀δ,I pre δ->hol (b (δ.set i (some (.sh (enc x))))) fun o=>match o with | .nx δ'=>I (pre++[x]) δ' | .ct δ'=>I (pre++[x]) δ' | .bk δ'=>QO (.nx δ') | .rt d=>QO (.rt d) | .rb d δ'=>QO (.rb d δ') | .ex c δ'=>QO (.ex c δ'))(he:∀δ,I xs δ->QO (.nx δ)):hol (z6j i b (xs.map enc) s) QO:=by
 refine y5K (fun n δ=>I (xs.take n) δ) (by simpa using h0) (fun n hn δ hI=>?_) fun δ hI=>he δ (by simpa using hI)
 have hn':n<xs.length:=by simpa using hn
 have e:xs=xs.take n++xs[n]::xs.drop (n+1):=by
  rw [←bx hn',fu]
 have:=hs (xs.take n) xs[n] _ e δ hI
 rw [←List.take_succ_eq_append_getElem hn']at this
 rw [cI]
 exact this
end
end L2
namespace L2
open PySem
def o2(F:D->D->Option D):Option D->Option D->Option D
 |some x,some y=>F x y
 |_,_=>none
def andO:Option D->Option D->Option D
 |some (.bl true),y=>y
 |some (.bl false),_=>some (.bl false)
 |_,_=>none
def orO:Option D->Option D->Option D
 |some (.bl true),_=>some (.bl true)
 |some (.bl false),y=>y
 |_,_=>none
def andT:Option Bool->Option Bool->Option Bool
 |some true,y=>y
 |some false,_=>some false
 |_,_=>none
def orT:Option Bool->Option Bool->Option Bool
 |some true,_=>some true
 |some false,y=>y
 |_,_=>none
def iteO{α:Type}:Option Bool->Option α->Option α->Option α
 |some true,x,_=>x
 |some false,_,y=>y
 |_,_,_=>none
def consA:Option D->Option (List D)->Option (List D)
 |some x,some xs=>some (x::xs)
 |_,_=>none
def x0o:Option D->Option D
 |some d=>if d.imm=true then some d else none
 |none=>none
def z6d:Option (List D)->Option (List D)
 |some ds=>if z1P ds=true then some ds else none
 |none=>none
def y7r(x:Option Out)(b:SS->Option Out):Option Out:=match x with
 |some (.nx s)=>b s
 |o=>o
def rng1:Option D->Option (List D)
 |some (.int j)=>if -(2 ^ 62)≤j∧j<2 ^ 62 then some (z4p 0 j.toNat)else none
 |_=>none
def rng2:Option D->Option D->Option (List D)
 |some (.int i),some (.int j)=>if -(2 ^ 62)≤i∧i<2 ^ 62∧-(2 ^ 62)≤j∧j<2 ^ 62 then some (z4p i (j - i).toNat)else none
 |_,_=>none
def setO(mk:D->SD)(i:Nat)(x:Option D)(s:SS):Option Out:=match x with
 |some d=>some (.nx (s.set i (some (mk d))))
 |none=>none
def rtO:Option D->Option Out
 |some d=>some (.rt d)
 |none=>none
def forX(i:Nat)(ds:Option (List D))(b:SS->Option Out)(s:SS):Option Out:=match ds with
 |some ds=>z6j i b ds s
 |none=>none
def z8T(i:Nat)(x:Option D)(s:SS):Option Out:=match x with
 |some d=>some (.nx ((z0z i s).set i (some (.ow d))))
 |none=>none
def z2e(fc:DS->Option Bool)(fe:DE)(δ:DS):D->Option (Option D):=fun x=>(fc (δ++[some x])).bind fun k=>if k=true then(fe (δ++[some x])).map some else some none
def z2c(xs:Option (List D))(h:D->Option (Option D)):Option (List D):=match xs with
 |some xs=>if xs.length≤sizeLine then z1p h xs else none
 |none=>none
section
variable{f g h:DE}{δ:DS}{s:SS}{F:D->D->Option D}{c e:DS->Option Bool}{a b:SS->Option Out}{i j:Nat}
theorem y7J{x:Option D}{r:DS}:z0d 0 (x::r)=x:=ho_var0
theorem y9u{x:Option D}{r:DS}:z0d (i+1) (x::r)=z0d i r:=(rfl)
theorem ev_C{d:D}:dC d δ=some d:=(rfl)
theorem ev_d2:d2 F f g δ=o2 F (f δ) (g δ):=by
 unfold d2 o2
 cases f δ <;> cases g δ <;> rfl
theorem ev_d1{G:D->Option D}:d1 G f δ=(f δ).bind G:=(rfl)
theorem y6j:z0M f δ=(f δ).bind asB:=by
 unfold z0M
 cases f δ with
 |none=>rfl
 |some d=>cases d <;> rfl
theorem y4d:z1r f δ=(f δ).bind y0e:=(rfl)
theorem y7n:y6P c e δ=andT (c δ) (e δ):=by
 unfold y6P
 rcases c δ with _ | _ | _ <;> rfl
theorem x2X:y5F c e δ=orT (c δ) (e δ):=by
 unfold y5F
 rcases c δ with _ | _ | _ <;> rfl
theorem y9w:z6g c δ=(c δ).map (!·):=(rfl)
theorem x3u:x0R f g δ=andO (f δ) (g δ):=by
 unfold x0R andO
 rcases f δ with _ | (_ | (_ | _) | _ | _ | _ | _ | _ | _) <;> rfl
theorem ev_or:dOr f g δ=orO (f δ) (g δ):=by
 unfold dOr orO
 rcases f δ with _ | (_ | (_ | _) | _ | _ | _ | _ | _ | _) <;> rfl
theorem ev_if:dIf c f g δ=iteO (c δ) (f δ) (g δ):=by
 unfold dIf
 rcases c δ with _ | _ | _ <;> rfl
theorem y3E:z0o [] δ=some []:=(rfl)
theorem y4x{r:List DE}:z0o (f::r) δ=consA (f δ) (z0o r δ):=by
 show((f δ).bind fun x=>(z0o r δ).bind fun xs=>some (x::xs))=_
 cases f δ <;> cases z0o r δ <;> rfl
theorem y8W{M:List D->Option D}{fl:List DE}:z0i M fl δ=(z0o fl δ).bind M:=(rfl)
theorem y4C{M:List D->Option (List D)}{fl:List DE}:z2S M fl δ=(z0o fl δ).bind M:=(rfl)
theorem x2U{f:DS->Option (List D)}:mkL f δ=(f δ).map .lst:=(rfl)
theorem x2P{f:DS->Option (List D)}:mkT f δ=(f δ).map .tup:=(rfl)
theorem y1e{f:DS->Option (List D)}:z0w f δ=(z6d (f δ)).map .lst:=by
 unfold z0w z6d
 cases f δ with
 |none=>rfl
 |some ds=>
  show(if z1P ds=true then _ else _)=Option.map _ (if z1P ds=true then _ else _)
  split <;> rfl
theorem ev_is{T:String}:dIs T f δ=(f δ).map fun d=>.bl (isF T d):=(rfl)
theorem x2E:z5l f δ=(f δ).bind y4W:=(rfl)
theorem y6o:z3y f δ=rng1 (f δ):=(rfl)
theorem y6t:y6F f g δ=rng2 (f δ) (g δ):=(rfl)
theorem y6n{fi:DS->Option (List D)}:z0U fi c f δ=z2c (fi δ) (z2e c f δ):=by
 unfold z0U z2c
 cases fi δ <;> rfl
theorem y7W:z0O a b s=y7r (a s) b:=by
 unfold z0O y7r
 rcases a s with _ | (_ | _ | _ | _) <;> rfl
theorem y6v:z2d s=some (.nx s):=(rfl)
theorem y7g:y5f i f s=setO .sh i (f (shV s)) s:=by
 unfold y5f setO
 cases f (shV s) <;> rfl
theorem y6f:z7K i f s=setO .sh i (x0o (f (z0u s))) s:=by
 unfold z7K setO x0o
 cases f (z0u s)with
 |none=>rfl
 |some d=>
  show(if d.imm=true then _ else _)=(match (if d.imm=true then some d else none)with | some d=>some (Out.nx (s.set i (some (SD.sh d)))) | none=>none)
  split <;> rfl
theorem y8Y:z5q i f s=setO .ow i (f (z0u s)) s:=by
 unfold z5q setO
 cases f (z0u s) <;> rfl
theorem y9d:z3z f s=rtO (x0o (f (z0u s))):=by
 unfold z3z rtO x0o
 cases f (z0u s)with
 |none=>rfl
 |some d=>
  show(if d.imm=true then _ else _)=(match (if d.imm=true then some d else none)with | some d=>some (Out.rt d) | none=>none)
  split <;> rfl
theorem y7v:z8g f s=rtO (f (z0u s)):=by
 unfold z8g rtO
 cases f (z0u s) <;> rfl
theorem y9E:x1J f s=rtO (f (shV s)):=by
 unfold x1J rtO
 cases f (shV s) <;> rfl
theorem y9I:y3Z i s=rtO (owA i s):=by
 unfold y3Z rtO owA
 rcases s[i]? with _ | _ | ⟨x | x | ⟨r,x⟩⟩ <;> rfl
theorem x2A:ifO c a b s=iteO (c (z0u s)) (a s) (b s):=by
 unfold ifO
 rcases c (z0u s)with _ | _ | _ <;> rfl
theorem y6U{fi:DS->Option (List D)}:z7R i fi b s=forX i (fi (shV s)) b s:=by
 unfold z7R forX
 cases fi (shV s) <;> rfl
theorem x3m:frzO i b s=b (x0O i s):=(rfl)
theorem eo_2{x y:D}:o2 F (some x) (some y)=F x y:=(rfl)
theorem x2G{x y:Bool}:andO (some (.bl x)) (some (.bl y))=some (.bl (x&&y)):=by cases x <;> rfl
theorem eo_or{x y:Bool}:orO (some (.bl x)) (some (.bl y))=some (.bl (x||y)):=by cases x <;> rfl
theorem y9n{x y:Bool}:andT (some x) (some y)=some (x&&y):=by cases x <;> rfl
theorem x3H{x y:Bool}:orT (some x) (some y)=some (x||y):=by cases x <;> rfl
theorem y8p{α:Type}{x y:Option α}:iteO (some true) x y=x:=(rfl)
theorem y5T{α:Type}{x y:Option α}:iteO (some false) x y=y:=(rfl)
theorem y9X{x:D}{xs:List D}:consA (some x) (some xs)=some (x::xs):=(rfl)
theorem eo_nx:y7r (some (.nx s)) b=b s:=(rfl)
theorem eo_rt{d:D}:y7r (some (.rt d)) b=some (.rt d):=(rfl)
theorem x2O{mk:D->SD}{d:D}:setO mk i (some d) s=some (.nx (s.set i (some (mk d)))):=(rfl)
theorem x2F{d:D}:rtO (some d)=some (.rt d):=(rfl)
theorem x2H{ds:List D}:forX i (some ds) b s=z6j i b ds s:=(rfl)
theorem y9R{n:Int}:x0o (some (.int n))=some (.int n):=(rfl)
theorem y9t{n:Bool}:x0o (some (.bl n))=some (.bl n):=(rfl)
theorem z1T{ds:List D}(h:z1P ds=true):z6d (some ds)=some ds:=if_pos h
theorem y2O{n:Int}(h:-(2 ^ 62)≤n∧n<2 ^ 62):rng1 (some (.int n))=some (z4p 0 n.toNat):=if_pos h
theorem y6D{m n:Int}(h:-(2 ^ 62)≤m∧m<2 ^ 62∧-(2 ^ 62)≤n∧n<2 ^ 62):rng2 (some (.int m)) (some (.int n))=some (z4p m (n - m).toNat):=if_pos h
theorem z4P{xs:List D}{k:D->Option (Option D)}(h:xs.length≤1000000):z2c (some xs) k=z1p k xs:=if_pos (z4h h)
section
variable{m n:Int}{p q:Bool}{ds es:List D}{x y:Str}{ns:List Int}
theorem x2L:y9r (.int m) (.int n)=some (.int (m+n)):=(rfl)
theorem x3p:subI (.int m) (.int n)=some (.int (m - n)):=(rfl)
theorem ea_mul(h:CMul m n):mulI (.int m) (.int n)=some (.int (m*n)):=if_pos h
theorem y3Y(h:CDiv m n):x0e (.int m) (.int n)=some (.int (m / n)):=if_pos h
theorem z4v(h:0<n):z6v (.int m) (.int n)=some (.int (m % n)):=if_pos h
theorem ea_lt:ltI (.int m) (.int n)=some (.bl (decide (m<n))):=(rfl)
theorem ea_le:leI (.int m) (.int n)=some (.bl (decide (m≤n))):=(rfl)
theorem ea_gt:gtI (.int m) (.int n)=some (.bl (decide (n<m))):=(rfl)
theorem x2r:eqD (.int m) (.int n)=some (.bl (decide (m=n))):=(rfl)
theorem x3l:neD (.int m) (.int n)=some (.bl (!decide (m=n))):=(rfl)
theorem x3s:uNeg (.int m)=some (.int (-m)):=(rfl)
theorem x3C:uNot (.bl p)=some (.bl (!p)):=(rfl)
theorem y6G:y0e (.bl p)=some p:=(rfl)
theorem y9O:z1z [.scr ns]=some (.int (ns.length:Int)):=(rfl)
theorem x3n:ixD (.lst ds) (.int m)=atI ds m:=(rfl)
theorem x2k:ixD (.scr ns) (.int m)=(atI ns m).map .int:=(rfl)
theorem y6e:isF "bool" (.int m)=false:=(rfl)
theorem y5W:isF "int" (.int m)=true:=(rfl)
theorem x3i:asB (.bl p)=some p:=(rfl)
end
theorem eb_bs{α β:Type}{a:α}{k:α->Option β}:(some a).bind k=k a:=(rfl)
theorem eb_ms{α β:Type}{a:α}{k:α->β}:(some a).map k=some (k a):=(rfl)
theorem eb_mn{α β:Type}{k:α->β}:(none:Option α).map k=none:=(rfl)
theorem eb_s0{α:Type}{x y:α}{r:List α}:(x::r).set 0 y=y::r:=(rfl)
theorem eb_sS{α:Type}{n:Nat}{x y:α}{r:List α}:(x::r).set (n+1) y=x::r.set n y:=(rfl)
theorem eb_mc{α β:Type}{x:α}{r:List α}{k:α->β}:(x::r).map k=k x::r.map k:=(rfl)
theorem y7D{α β:Type}{k:α->β}:([]:List α).map k=[]:=(rfl)
theorem eb_rS{α:Type}{n:Nat}{x:α}:ak (n+1) x=x::ak n x:=(rfl)
theorem eb_r0{α:Type}{x:α}:ak 0 x=[]:=(rfl)
theorem eb_ca{α:Type}{x:α}{r t:List α}:(x::r)++t=x::(r++t):=(rfl)
theorem eb_na{α:Type}{t:List α}:[]++t=t:=(rfl)
theorem y9F:z0u []=[]:=(rfl)
theorem y7Z{x:Option SD}{r:SS}:z0u (x::r)=x.map SD.val::z0u r:=(rfl)
theorem x2s:shV []=[]:=(rfl)
theorem x2Z{x:Option SD}{r:SS}:shV (x::r)=shO x::shV r:=(rfl)
theorem x3L{d:D}:shO (some (.sh d))=some d:=(rfl)
theorem y3V:z0z i []=[]:=(rfl)
theorem y3i{x:Option SD}{r:SS}:z0z i (x::r)=y2I i x::z0z i r:=(rfl)
theorem y0K{d:D}:y2I i (some (.sh d))=some (.sh d):=(rfl)
theorem y1z{d:D}:y2I i (some (.ow d))=some (.ow d):=(rfl)
theorem y4p:y2I i none=none:=(rfl)
theorem x2o{d:D}{r:SS}:owA 0 (some (.ow d)::r)=some d:=(rfl)
theorem x2z{x:Option SD}{r:SS}:owA (i+1) (x::r)=owA i r:=(rfl)
end
end L2
namespace L2
open PySem
def x0C:Option (List D)->Option (List D):=z6d
def st0V(o k v:Option D):Option D:=match o,k,v with
 |some (.lst ds),some (.int k),some d=>(ixN ds.length k).map fun j=>.lst (ds.set j d)
 |_,_,_=>none
def st1V(o k j v:Option D):Option D:=match o,k,j,v with
 |some (.lst ds),some (.int k),some (.int j),some d=>(ixN ds.length k).bind fun k'=>(match ds[k']? with
  |some (.lst es)=>if z1P es=true then(ixN es.length j).map fun j'=>.lst (ds.set k' (.lst (es.set j' d)))else none
  |_=>none)
 |_,_,_,_=>none
def m0V(M:List D->List D->Option (List D))(o:Option D)(args:Option (List D)):Option D:=match o,args with
 |some (.lst ds),some args=>(M ds args).map .lst
 |_,_=>none
section
variable{f g fk fj fv:DE}{s:SS}{i:Nat}{M:List D->List D->Option (List D)}{fl:List DE}
theorem x2R{d:D}:z8T i (some d) s=some (.nx ((z0z i s).set i (some (.ow d)))):=(rfl)
theorem y3G{ds:List D}(h:z1P ds=true):x0C (some ds)=some ds:=if_pos h
def kI:D->Option Int
 |.int k=>some k
 |_=>none
def kL:D->Option (List D)
 |.lst ds=>some ds
 |_=>none
def kW:Option (Option SD)->Option D
 |some (some (.ow d))=>some d
 |_=>none
theorem x2m:owA i s=kW s[i]?:=by
 unfold owA kW
 generalize s[i]? = x
 rcases x with _ | _ | ⟨x | x | ⟨r,x⟩⟩ <;> rfl
theorem mt2{β:Type}{k:D}{x:Option (Option SD)}{F:Int->List D->Option β}:(match k,x with | .int k,some (some (.ow (.lst ds)))=>F k ds | _,_=>none)=(kI k).bind fun k=>((kW x).bind kL).bind fun ds=>F k ds:=by
 cases k with
 |int k=>rcases x with _ | _ | ⟨x | x | ⟨r,x⟩⟩ <;> first | rfl | (cases x <;> rfl)
 |_=>rfl
theorem mt3{β:Type}{k j:D}{x:Option (Option SD)}{F:Int->Int->List D->Option β}:(match k,j,x with | .int k,.int j,some (some (.ow (.lst ds)))=>F k j ds | _,_,_=>none)=(kI k).bind fun k=>(kI j).bind fun j=>((kW x).bind kL).bind fun ds=>F k j ds:=by
 cases k with
 |int k=>
  cases j with
  |int j=>rcases x with _ | _ | ⟨x | x | ⟨r,x⟩⟩ <;> first | rfl | (cases x <;> rfl)
  |_=>rfl
 |_=>rfl
theorem st0V_k{o k v:Option D}:st0V o k v=(o.bind kL).bind fun ds=>(k.bind kI).bind fun k=>v.bind fun d=>(ixN ds.length k).map fun j=>.lst (ds.set j d):=by
 rcases o with _ | o
 ·rfl
 ·cases o with
  |lst ds=>
   rcases k with _ | k
   ·rfl
   ·cases k with
    |int k=>cases v <;> rfl
    |_=>rfl
  |_=>rfl
theorem x3N{o k j v:Option D}:st1V o k j v=(o.bind kL).bind fun ds=>(k.bind kI).bind fun k=>(j.bind kI).bind fun j=>v.bind fun d=>(ixN ds.length k).bind fun k'=>(match ds[k']? with
  |some (.lst es)=>if z1P es=true then(ixN es.length j).map fun j'=>.lst (ds.set k' (.lst (es.set j' d)))else none
  |_=>none):=by
 rcases o with _ | o
 ·rfl
 ·cases o with
  |lst ds=>
   rcases k with _ | k
   ·rfl
   ·cases k with
    |int k=>
     rcases j with _ | j
     ·rfl
     ·cases j with
      |int j=>cases v <;> rfl
      |_=>rfl
    |_=>rfl
  |_=>rfl
theorem y9N{α:Type}{x:Option α}{F:α->Option D}:z8T i (x.bind F) s=x.bind fun a=>z8T i (F a) s:=by cases x <;> rfl
theorem z2Q{α β:Type}{x:Option α}:(x.bind fun _=>(none:Option β))=none:=by cases x <;> rfl
theorem x3J:st0 i fk fv s=z8T i (st0V (owA i s) (fk (z0u s)) (x0o (fv (z0u s)))) s:=by
 have e:st0 i fk fv s=(fv (z0u s)).bind fun d=>if d.imm=true then(fk (z0u s)).bind fun dk=>(kI dk).bind fun k=>((kW s[i]?).bind kL).bind fun ds=>(ixN ds.length k).map fun j=>.nx ((z0z i s).set i (some (.ow (.lst (ds.set j d)))))else none:=by
  refine congrArg (Option.bind (fv (z0u s))) (funext fun d=>?_)
  refine congrArg (fun z=>if d.imm=true then z else none) ?_
  refine congrArg (Option.bind (fk (z0u s))) (funext fun dk=>?_)
  exact mt2 (F:=fun k ds=>(ixN ds.length k).map fun j=>Out.nx ((z0z i s).set i (some (.ow (.lst (ds.set j d))))))
 rw [e,st0V_k,x2m]
 simp only [y9N]
 generalize (kW s[i]?).bind kL=x
 rcases fv (z0u s)with _ | d
 ·show none=x.bind fun ds=>((fk (z0u s)).bind kI).bind fun k=>(none:Option Out)
  simp only [z2Q]
 ·show(if d.imm=true then(fk (z0u s)).bind fun dk=>_ else none)=x.bind fun ds=>((fk (z0u s)).bind kI).bind fun k=>(if d.imm=true then some d else none).bind fun d=>_
  split
  ·rcases fk (z0u s)with _ | k
   ·simp only [bU,z2Q]
   ·simp only [aq]
    cases kI k with
    |none=>simp only [bU,z2Q]
    |some k=>
     simp only [aq]
     cases x with
     |none=>rfl
     |some ds=>
      simp only [aq]
      cases ixN ds.length k <;> rfl
  ·simp only [bU,z2Q]
theorem m_st1{k j:Int}{d:D}{ds:List D}:((ixN ds.length k).bind fun k'=>(match ds[k']? with
   |some (.lst es)=>if z1P es=true then(ixN es.length j).map fun j'=>Out.nx ((z0z i s).set i (some (.ow (.lst (ds.set k' (.lst (es.set j' d)))))))else none
   |_=>none))=z8T i (st1V (some (.lst ds)) (some (.int k)) (some (.int j)) (some d)) s:=by
 show _=z8T i ((ixN ds.length k).bind _) s
 cases ixN ds.length k with
 |none=>rfl
 |some k'=>
  rw [aq,aq]
  cases ds[k']? with
  |none=>rfl
  |some y=>
   cases y with
   |lst es=>
    dsimp only
    split
    ·cases ixN es.length j <;> rfl
    ·rfl
   |_=>rfl
theorem x3M:st1 i fk fj fv s=z8T i (st1V (owA i s) (fk (z0u s)) (fj (z0u s)) (x0o (fv (z0u s)))) s:=by
 have e:st1 i fk fj fv s=(fv (z0u s)).bind fun d=>if d.imm=true then(fk (z0u s)).bind fun dk=>(fj (z0u s)).bind fun dj=>(kI dk).bind fun k=>(kI dj).bind fun j=>((kW s[i]?).bind kL).bind fun ds=>(ixN ds.length k).bind fun k'=>(match ds[k']? with
   |some (.lst es)=>if z1P es=true then(ixN es.length j).map fun j'=>.nx ((z0z i s).set i (some (.ow (.lst (ds.set k' (.lst (es.set j' d)))))))else none
   |_=>none)else none:=by
  refine congrArg (Option.bind (fv (z0u s))) (funext fun d=>?_)
  refine congrArg (fun z=>if d.imm=true then z else none) ?_
  refine congrArg (Option.bind (fk (z0u s))) (funext fun dk=>?_)
  refine congrArg (Option.bind (fj (z0u s))) (funext fun dj=>?_)
  exact mt3 (F:=fun k j ds=>(ixN ds.length k).bind fun k'=>(match ds[k']? with
   |some (.lst es)=>if z1P es=true then(ixN es.length j).map fun j'=>Out.nx ((z0z i s).set i (some (.ow (.lst (ds.set k' (.lst (es.set j' d)))))))else none
   |_=>none))
 rw [e,x3N,x2m]
 simp only [y9N]
 generalize (kW s[i]?).bind kL=x
 rcases fv (z0u s)with _ | d
 ·show none=x.bind fun ds=>((fk (z0u s)).bind kI).bind fun k=>((fj (z0u s)).bind kI).bind fun j=>(none:Option Out)
  simp only [z2Q]
 ·show(if d.imm=true then(fk (z0u s)).bind fun dk=>_ else none)=x.bind fun ds=>((fk (z0u s)).bind kI).bind fun k=>((fj (z0u s)).bind kI).bind fun j=>(if d.imm=true then some d else none).bind fun d=>_
  split
  ·rcases fk (z0u s)with _ | k
   ·simp only [bU,z2Q]
   ·simp only [aq]
    rcases fj (z0u s)with _ | j
    ·simp only [bU,z2Q]
    ·simp only [aq]
     cases kI k with
     |none=>simp only [bU,z2Q]
     |some k=>
      cases kI j with
      |none=>simp only [bU,aq,z2Q]
      |some j=>
       simp only [aq]
       cases x with
       |none=>rfl
       |some ds=>
        have:=m_st1 (i:=i) (s:=s) (k:=k) (j:=j) (d:=d) (ds:=ds)
        rw [x3N]at this
        simp only [aq,y9N,kL,kI]at this
        simp only [aq]
        exact this
  ·simp only [bU,z2Q]
theorem ev_m0:m0 i M fl s=z8T i (m0V M (owA i s) (x0C (z0o fl (z0u s)))) s:=by
 unfold m0 owA
 rcases z0o fl (z0u s)with _ | args
 ·rcases s[i]? with _ | _ | ⟨x | x | ⟨r,x⟩⟩ <;> (first | rfl | (cases x <;> rfl))
 ·show(if z1P args=true then _ else _)=z8T i (m0V M _ (if z1P args=true then some args else none)) s
  split
  ·rcases s[i]? with _ | _ | ⟨x | x | ⟨r,x⟩⟩ <;> (first | rfl | (cases x <;> first | rfl | (rename_i ds;show Option.map _ (M ds args)=z8T i (Option.map _ (M ds args)) s;cases M ds args <;> rfl)))
  ·rcases s[i]? with _ | _ | ⟨x | x | ⟨r,x⟩⟩ <;> (first | rfl | (cases x <;> rfl))
theorem y4q:y2u i f s=z8T i (m0V z9a (owA i s) (consA (f (z0u s)) (some []))) s:=by
 unfold y2u owA
 rcases f (z0u s)with _ | d
 ·rcases s[i]? with _ | _ | ⟨x | x | ⟨r,x⟩⟩ <;> (first | rfl | (cases x <;> rfl))
 ·rcases s[i]? with _ | _ | ⟨x | x | ⟨r,x⟩⟩ <;> (first | rfl | (cases x <;> first | rfl | (rename_i ds;show Option.map _ (z9a ds [d])=z8T i (Option.map _ (z9a ds [d])) s;cases z9a ds [d] <;> rfl)))
end
theorem es_v1{d:D}:(SD.sh d).val=d:=(rfl)
theorem es_v2{d:D}:(SD.ow d).val=d:=(rfl)
theorem y2Y{bs:List Bool}:x1o [.lst (bs.map bD)]=some (.bl (bs.all fun b=>b)):=by
 show(z6h (bs.map bD)).map (fun bs=>D.bl (bs.all fun b=>b))=_
 rw [z7r]
 rfl
theorem x3A{bs:List Bool}:anyF [.lst (bs.map bD)]=some (.bl (bs.any fun b=>b)):=by
 show(z6h (bs.map bD)).map (fun bs=>D.bl (bs.any fun b=>b))=_
 rw [z7r]
 rfl
theorem z5j:∀ns:List Int,z1A (ns.map D.int)=some ns
 |[]=>rfl
 |n::ns=>by
  show(z1A (ns.map D.int)).map (n :: ·)=_
  rw [z5j ns]
  rfl
theorem y0O{ns:List Int}:y5q [.lst (ns.map .int)]=some (.int ns.sum):=by
 show(z1A (ns.map D.int)).map (fun ns=>D.int ns.sum)=_
 rw [z5j]
 rfl
theorem y4a{T:List (List Bool)}{a b:Nat}{v:Bool}(ha:a<T.length)(hb:b<T[a].length):st1V (some (z0A T)) (some (.int (a:Int))) (some (.int (b:Int))) (some (.bl v))=some (z0A (T.set a (T[a].set b v))):=by
 show((ixN (T.map z2v).length (a:Int)).bind fun k'=>(match (T.map z2v)[k']? with
  |some (.lst es)=>if z1P es=true then(ixN es.length (b:Int)).map fun j'=>D.lst ((T.map z2v).set k' (.lst (es.set j' (.bl v))))else none
  |_=>none))=_
 rw [y2r (by simpa using ha),aq]
 have e1:(T.map z2v)[a]? = some (.lst (T[a].map bD)):=by rw [aN,ac ha];rfl
 rw [e1]
 dsimp only
 rw [if_pos (z1c _),y2r (by simpa using hb),bH]
 unfold z0A
 rw [dN]
 unfold z2v
 rw [dN]
 rfl
theorem z7n{α β:Type}{f:α->β}:∀{xs:List α} {i:Nat},(xs.map f).eraseIdx i=(xs.eraseIdx i).map f
 |[],_=>rfl
 |_::_,0=>rfl
 |x::r,i+1=>congrArg (f x :: ·) (z7n (xs:=r) (i:=i))
theorem z1d{T:List (List Bool)}:z1z [z0A T]=some (.int (T.length:Int)):=by
 show some (D.int ((T.map z2v).length:Nat))=_
 rw [am]
theorem ix_tab{T:List (List Bool)}{k:Nat}(h:k<T.length):ixD (z0A T) (.int (k:Int))=some (z2v T[k]):=tab_ix h
theorem ix_row{r:List Bool}{k:Nat}(h:k<r.length):ixD (z2v r) (.int (k:Int))=some (.bl r[k]):=row_ix h
theorem ins_at{n b:Nat}(h:b≤n):y4I n (b:Int)=b:=by
 unfold y4I
 rw [if_neg (by omega),cB,Nat.min_eq_left h]
theorem z8U{x:Int}{n:Nat}(h:0<n):∃a:Nat,x % (n:Int)=(a:Int)∧a<n:=by
 have h1:=Int.emod_nonneg x (show(n:Int)≠0 by omega)
 have h2:=Int.emod_lt_of_pos x (show(0:Int)<n by omega)
 exact⟨(x % (n:Int)).toNat,by omega,by omega⟩
theorem y2g{α:Type}{enc:α->D}{c:DS->Option Bool}{f:DE}{δ:DS}(p:α->Bool)(g:α->D):∀{xs:List α},(∀x∈xs,c (δ++[some (enc x)])=some (p x))->(∀x∈xs,p x=true->f (δ++[some (enc x)])=some (g x))->z1p (z2e c f δ) (xs.map enc)=some ((xs.filter p).map g)
 |[],_,_=>rfl
 |x::r,hc,hf=>by
  have ih:=y2g (xs:=r) p g (fun y hy=>hc y (ag _ hy)) fun y hy=>hf y (ag _ hy)
  rw [aG]
  unfold z1p
  rw [ih]
  unfold z2e
  rw [hc x ah]
  cases hp:p x with
  |true=>
   show((if true=true then(f (δ++[some (enc x)])).map some else some none).bind _)=_
   rw [if_pos rfl,hf x ah hp,eW hp]
   rfl
  |false=>
   rw [eX (by rw [hp];exact ar)]
   rfl
theorem z4e{α:Type}{enc:α->D}{f:DE}{δ:DS}(g:α->D){xs:List α}(hf:∀x∈xs,f (δ++[some (enc x)])=some (g x)):z1p (z2e z3x f δ) (xs.map enc)=some (xs.map g):=by
 rw [y2g (fun _=>true) g (fun _ _=>rfl) fun x hx _=>hf x hx,dB.mpr fun _ _=>rfl]
def nD(n:Nat):D:=.int (n:Int)
theorem z2G{n:Nat}:z4p 0 n=(ad n).map nD:=by
 unfold z4p nD
 refine bB fun k _=>?_
 rw [bW]
theorem at_nat{α:Type}{xs:List α}{k:Nat}(h:k<xs.length):atI xs (k:Int)=some xs[k]:=y2V (ac h)
theorem x3a{n k:Nat}(h:k<n):ixN n (k:Int)=some k:=y2r h
end L2
namespace L2
open PySem
theorem z6p:∀o:List Int,z1P (o.map D.int)=true
 |[]=>rfl
 |n::o=>by
  show(true&&z1P (o.map D.int))=true
  rw [z6p o]
  rfl
theorem z9X:∀o:List Int,PyData.canLayAll0 (z4W (o.map D.int))=true
 |[]=>rfl
 |n::o=>by
  show(true&&PyData.canLayAll0 (z4W (o.map D.int)))=true
  rw [z9X o]
  rfl
theorem z9S:∀o:List Int,PyData.depthAll (z4W (o.map D.int))=0
 |[]=>rfl
 |n::o=>by
  show max 0 (PyData.depthAll (z4W (o.map D.int)))=0
  rw [z9S o]
  rfl
theorem z0v{x:Option Out}{b:SS->Option Out}{I:SS->Prop}{Q:Out->Prop}(h:hol x fun o=>∃s,o = .nx s∧I s)(k:∀s,I s->hol (b s) Q):hol (y7r x b) Q:=by
 obtain⟨o,rfl,s,rfl,q⟩:=h
 exact k s q
def rngI(m:Nat):List Int:=(ad m).map fun k=>((k:Nat):Int)
structure Good(m:Nat)(b:Int×List Int):Prop where
 lo:1≤b.1
 hi:b.1≤10 ^ 30
 perm:b.2.Perm (rngI m)
end L2
namespace L2
open PySem
def at2(T:List (List Bool))(i j:Nat):Bool:=(T.getD i []).getD j false
def thD(th:List Nat):D:=.lst (th.map nD)
theorem z9V{T:List (List Bool)}{i:Nat}(h:i<T.length):ixD (z0A T) (.int (i:Int))=some (z2v (T.getD i [])):=by
 rw [ix_tab h]
 simp [aJ,ac h]
theorem z9w{r:List Bool}{j:Nat}(h:j<r.length):ixD (z2v r) (.int (j:Int))=some (.bl (r.getD j false)):=by
 rw [ix_row h]
 simp [aJ,ac h]
theorem Sq.len{n:Nat}{T:List (List Bool)}(h:Sq n T){i:Nat}(hi:i<n):(T.getD i []).length=n:=by
 have h1:i<T.length:=by rw [h.1];exact hi
 have:T.getD i []=T[i]:=by simp [aJ,ac h1]
 rw [this]
 exact h.row h1
theorem ix2{n:Nat}{T:List (List Bool)}(h:Sq n T){i j:Nat}(hi:i<n)(hj:j<n):o2 ixD (ixD (z0A T) (.int (i:Int))) (some (.int (j:Int)))=some (.bl (at2 T i j)):=by
 rw [z9V (by rw [h.1];exact hi),eo_2,z9w (by rw [h.len hi];exact hj)]
 rfl
def z0x(th:List Nat)(f:Nat->Nat->Bool):List (List Bool):=th.map fun i=>th.map fun j=>f i j
theorem z9n{α β:Type}{f:α->β}{xs:List α}{i:Nat}{d:β}(h:i<xs.length):(xs.map f).getD i d=f xs[i]:=by
 simp [aJ,h]
theorem z5w{th:List Nat}{f:Nat->Nat->Bool}:Sq th.length (z0x th f):=by
 refine⟨by simp [z0x],fun r hr=>?_⟩
 obtain⟨i,_,rfl⟩:=aK.mp hr
 simp
theorem grid_of{n:Nat}{T:List (List Bool)}(h:Sq n T):z0x (ad n) (at2 T)=T:=by
 unfold z0x
 apply bb
 ·simp [h.1]
 ·intro i h1 h2
  have hi:i<n:=by simpa using h1
  rw [cI]
  have hrow:T[i].length=n:=h.row h2
  apply bb
  ·simp [hrow]
  ·intro j h3 h4
   have hj:j<n:=by simpa using h3
   rw [cI]
   unfold at2
   simp [aJ,ac h2,ac h4]
theorem seq_tab{T:List (List Bool)}:y4W (z0A T)=some (T.map z2v):=(rfl)
theorem z3u{th:List Nat}:y4W (thD th)=some (th.map nD):=(rfl)
theorem z8o{th:List Nat}:z1z [thD th]=some (.int (th.length:Int)):=by
 show some (D.int ((th.map nD).length:Nat))=_
 rw [am]
theorem z8f:∀th:List Nat,z1P (th.map nD)=true
 |[]=>rfl
 |n::th=>by
  show(true&&z1P (th.map nD))=true
  rw [z8f th]
  rfl
theorem x2M(th:List Nat):okP (thD th)=true:=by
 have e:th.map nD=(th.map fun n=>((n:Nat):Int)).map D.int:=by rw [aL];rfl
 unfold okP thD
 rw [e,aH,decide_eq_true_eq]
 refine⟨z9X _,?_⟩
 show PyData.depthAll (z4W ((th.map fun n=>((n:Nat):Int)).map D.int))+1≤60
 rw [z9S]
 decide
theorem ne_self{d:D}(h:okP d=true):neD d d=some (.bl false):=by
 unfold neD
 rw [h]
 show(if(true&&true)=true then some (D.bl (!PyData.eqv (toP d) (toP d)))else none)=_
 rw [if_pos (show(true&&true)=true from rfl),SeqAt.eqv_refl _ (z0t h).1]
 rfl
theorem app_thV{th:List Nat}{k:Nat}(hl:th.length≤1000000):m0V z9a (some (thD th)) (some [.int (k:Int)])=some (thD (th++[k])):=by
 show Option.map _ (if(th.map nD).length<sizeLine then some (th.map nD++[.int (k:Int)])else none)=_
 rw [am,if_pos (by rw [PySem.sizeLine_eq];omega)]
 unfold thD
 rw [aI]
 rfl
theorem y4z{fi:DS->Option (List D)}{c:DS->Option Bool}{f:DE}{δ:DS}:z7A fi c f δ=z2c (fi δ) (two (z4m c f δ)):=by
 unfold z7A z2c
 cases fi δ <;> rfl
theorem y8c{f:DE}{δ:DS}:y4Q f δ=(f δ).bind y2E:=(rfl)
def z4s(k:Nat):List Bool->List Nat
 |[]=>[]
 |b::r=>if b=true then k::z4s (k+1) r else z4s (k+1) r
theorem y5Z:∀{r:List Bool} {k:Nat},z4s k r=(dY k r.length).filter fun i=>r.getD (i - k) false
 |[],_=>rfl
 |b::r,k=>by
  have ih:=y5Z (r:=r) (k:=k+1)
  unfold z4s
  rw [aY,List.range'_succ]
  have e:(dY (k+1) r.length).filter (fun i=>(b::r).getD (i - k) false)=(dY (k+1) r.length).filter fun i=>r.getD (i - (k+1)) false:=by
   apply bR
   intro i hi
   have:=(List.mem_range'_1.mp hi).1
   have e:i - k=(i - (k+1))+1:=by omega
   rw [e]
   rfl
  cases b with
  |true=>
   rw [eW (by simp),e,ih]
   rfl
  |false=>
   rw [eX (by simp),e,ih]
   rfl
theorem z7a:∀{ds:List D} {k:Nat},(z0s k ds).length=ds.length
 |[],_=>rfl
 |d::r,k=>by show(z0s (k+1) r).length+1=r.length+1;rw [z7a]
end L2
namespace L2
open PySem
def chO(F G:D->D->Option D)(x y z:Option D):Option D:=match x,y with
 |some x,some y=>match F x y with
  |some (.bl true)=>z.bind fun z=>G y z
  |some (.bl false)=>some (.bl false)
  |_=>none
 |_,_=>none
theorem y3P{F G:D->D->Option D}{f g h:DE}{δ:DS}:z8h F G f g h δ=chO F G (f δ) (g δ) (h δ):=by
 unfold z8h chO
 cases f δ <;> cases g δ <;> rfl
theorem x0l{F G:D->D->Option D}{x y z:D}{b c:Bool}(h1:F x y=some (.bl b))(h2:G y z=some (.bl c)):chO F G (some x) (some y) (some z)=some (.bl (b&&c)):=by
 show(match F x y with
  |some (.bl true)=>(some z).bind fun z=>G y z
  |some (.bl false)=>some (.bl false)
  |_=>none)=_
 rw [h1]
 cases b with
 |true=>exact h2
 |false=>rfl
def inO:Option D->Option D->Option Bool
 |some x,some y=>inK x y
 |_,_=>none
theorem y7h{f g:DE}{δ:DS}:x0w f g δ=inO (f δ) (g δ):=by
 unfold x0w inO
 cases f δ <;> cases g δ <;> rfl
theorem eo_in{x y:D}:inO (some x) (some y)=inK x y:=(rfl)
theorem y8m{f g:DE}{δ:DS}:x1u f g δ=(x0w f g δ).map (!·):=(rfl)
def y8T(o k v:Option D):Option D:=match o,k,v with
 |some (.dct ks ds),some dk,some d=>(y2D dk).bind fun k=>if z1P ds=true∧ks.length<sizeLine then some (.dct (y1B ks k) (y1D ks ds k d))else none
 |_,_,_=>none
theorem m_dput{i:Nat}{s:SS}{dk d:D}{ks:List Key}{ds:List D}:(match y2D dk,(some (some (SD.ow (.dct ks ds))):Option (Option SD))with
   |some k,some (some (.ow (.dct ks ds)))=>if z1P ds=true∧ks.length<sizeLine then some (Out.nx ((z0z i s).set i (some (.ow (.dct (y1B ks k) (y1D ks ds k d))))))else none
   |_,_=>none)=z8T i (y8T (some (.dct ks ds)) (some dk) (some d)) s:=by
 show _=z8T i ((y2D dk).bind _) s
 cases y2D dk with
 |none=>rfl
 |some k=>
  show(if z1P ds=true∧ks.length<sizeLine then _ else _)=z8T i (if z1P ds=true∧ks.length<sizeLine then _ else _) s
  split <;> rfl
theorem y6R{i:Nat}{fk fv:DE}{s:SS}:dput i fk fv s=z8T i (y8T (owA i s) (fk (z0u s)) (x0o (fv (z0u s)))) s:=by
 unfold dput owA
 rcases fv (z0u s)with _ | d
 ·rcases fk (z0u s)with _ | dk <;> rcases s[i]? with _ | _ | ⟨x | x | ⟨r,x⟩⟩ <;> (first | rfl | (cases x <;> rfl))
 ·show(if d.imm=true then _ else _)=z8T i (y8T _ _ (if d.imm=true then some d else none)) s
  split
  ·rcases fk (z0u s)with _ | dk
   ·rcases s[i]? with _ | _ | ⟨x | x | ⟨r,x⟩⟩ <;> (first | rfl | (cases x <;> rfl))
   ·rw [aq]
    rcases s[i]? with _ | _ | ⟨x | x | ⟨r,x⟩⟩
    ·cases y2D dk <;> rfl
    ·cases y2D dk <;> rfl
    ·cases y2D dk <;> rfl
    ·cases x with
     |dct ks ds=>exact m_dput
     |_=>(cases y2D dk <;> rfl)
    ·cases y2D dk <;> rfl
  ·rcases fk (z0u s)with _ | dk <;> rcases s[i]? with _ | _ | ⟨x | x | ⟨r,x⟩⟩ <;> (first | rfl | (cases x <;> rfl))
def x2W:Option D->Option D->Option (List D)
 |some x,some y=>catLs x y
 |_,_=>none
theorem x2C{f g:DE}{δ:DS}:x2v f g δ=x2W (f δ) (g δ):=by
 unfold x2v x2W
 cases f δ <;> cases g δ <;> rfl
theorem x3h{ds es:List D}(h:ds.length+es.length≤1000000):x2W (some (.lst ds)) (some (.lst es))=some (ds++es):=if_pos (z4h h)
theorem y9i{d:D}{r:SS}:x0O 0 (some (.ow d)::r)=some (.sh d)::r:=(rfl)
theorem y9U{i:Nat}{x:Option SD}{r:SS}:x0O (i+1) (x::r)=x::x0O i r:=by
 unfold x0O
 rw [eV]
 rcases r[i]? with _ | _ | ⟨y | y | ⟨q,y⟩⟩ <;> rfl
def y2s(p:List Int):D:=.dct (p.map Sum.inl) (p.map fun _=>.bl true)
theorem y9c{p:List Int}{x:Int}(h:x∉p):inK (.int x) (y2s p)=some false:=by
 show some (y2q (p.map Sum.inl) (.inl x))=_
 congr 1
 unfold y2q
 rw [cy,cz]
 intro y hy z
 have:(Sum.inl y:Key)=Sum.inl x:=of_decide_eq_true z
 cases this
 exact h hy
theorem y1r:∀p:List Int,z1P (p.map fun _=>D.bl true)=true
 |[]=>rfl
 |_::p=>by
  show(true&&z1P (p.map fun _=>D.bl true))=true
  rw [y1r p]
  rfl
theorem x2h{p:List Int}{x:Int}(h:x∉p)(hl:p.length≤1000000):y8T (some (y2s p)) (some (.int x)) (some (.bl true))=some (y2s (p++[x])):=by
 show(if z1P (p.map fun _=>D.bl true)=true∧(p.map (Sum.inl:Int->Key)).length<sizeLine then _ else _)=_
 rw [if_pos ⟨y1r p,by rw [am,PySem.sizeLine_eq];omega⟩]
 have hh:y2q (p.map Sum.inl) (.inl x)=false:=by
  have:=y9c h
  exact Option.some.inj this
 unfold y1B y1D y2s
 rw [hh,if_neg ar,if_neg ar,aI,aI]
 rfl
end L2
namespace Prg
open PySem L2
def extV(o x:Option D):Option D:=match x,o with
 |some (.lst es),some (.lst ds)=>if ds.length+es.length≤sizeLine then some (.lst (ds++es))else none
 |_,_=>none
theorem x2p{f:DE}{δ:DS}:dIsN f δ=(f δ).map isN:=(rfl)
theorem y3o:∀ns:List Int,z1A (ns.map .int)=some ns
 |[]=>rfl
 |n::ns=>by
  rw [aG]
  unfold z1A
  rw [y3o ns]
  rfl
theorem x1x{ns:List Int}(h:ns.length<64):y5p [.lst (ns.map .int)]=some ((z6m ns).map .int):=by
 show((z1A (ns.map .int)).bind fun ns=>if ns.length<64 then some ((z6m ns).map D.int)else none)=_
 rw [y3o,aq,if_pos h]
def sm(f:Nat->Nat):Nat->Nat
 |0=>0
 |n+1=>sm f n+f n
theorem z7e{β:Type}{f g:β->Int}:∀{L:List β},(∀x∈L,f x=g x)->(L.map f).sum=(L.map g).sum
 |[],_=>rfl
 |x::L,h=>by
  rw [aG,aG,ce,ce,h x ah,z7e fun y hy=>h y (ag _ hy)]
end Prg
namespace L2
open PySem
theorem y2W{α:Type}{enc:α->D}{c:DS->Option Bool}{f:DE}{δ:DS}(p:α->Bool)(g:α->D){xs:List α}(hl:xs.length≤1000)(hc:∀x∈xs,c (δ++[some (enc x)])=some (p x))(hf:∀x∈xs,p x=true->f (δ++[some (enc x)])=some (g x)):z2c (some (xs.map enc)) (z2e c f δ)=some ((xs.filter p).map g):=by
 rw [z4P (by rw [am];omega)]
 exact y2g p g hc hf
theorem z1W{α:Type}{enc:α->D}{f:DE}{δ:DS}(g:α->D){xs:List α}(hl:xs.length≤1000)(hf:∀x∈xs,f (δ++[some (enc x)])=some (g x)):z2c (some (xs.map enc)) (z2e z3x f δ)=some (xs.map g):=by
 rw [z4P (by rw [am];omega)]
 exact z4e g hf
theorem x1E{p:Nat->Bool}{k:Nat}:(ad (k+1)).filter p=(ad k).filter p++if p k=true then [k] else []:=by rw [b7,dL,bL,List.filter_nil]
theorem z1m{m:Nat}(h:m≤1000000):rng1 (some (.int (m:Int)))=some (z4p 0 m):=by rw [y2O (by omega)];rfl
theorem y6u{a:Nat}{th:List Nat}:y6Q (.int (a:Int)) (thD th)=some (th.contains a):=by
 unfold thD y6Q
 show(if(okP (.int (a:Int))&&okP (.lst (th.map nD)))=true then _ else none)=_
 rw [show okP (.lst (th.map nD))=true from x2M th,show okP (.int (a:Int))=true from rfl]
 show some ((th.map nD).any fun y=>PyData.eqv (toP y) (toP (.int (a:Int))))=_
 congr 1
 rw [cy,cZ]
 congr 1
 funext x
 show decide ((x:Int)=(a:Int))=(a==x)
 by_cases h:x=a
 ·subst h;simp
 ·have:¬ a=x:=fun e=>h e.symm
  have h2:¬ (x:Int)=(a:Int):=by omega
  simp [this,h2]
theorem in_ths{a:Nat}{th:List Nat}:inD (.int (a:Int)) (thD th)=some (.bl (th.contains a)):=by
 unfold inD
 rw [y6u]
 rfl
theorem y8r{a:Nat}{th:List Nat}:y6L (.int (a:Int)) (thD th)=some (.bl (!th.contains a)):=by
 unfold y6L
 rw [y6u]
 rfl
theorem x3v{th:List Nat}:y0e (thD th)=some (!th.isEmpty):=by cases th <;> rfl
theorem y4o{α:Type}{enc:α->D}{c:DS->Option Bool}{f:DE}{δ:DS}(p:Nat->α->Bool)(g:Nat->α->D):∀{xs:List α} {k:Nat},(∀i (h:i<xs.length),c (δ++[some (.int ((k+i:Nat):Int)),some (enc xs[i])])=some (p (k+i) xs[i]))->(∀i (h:i<xs.length),p (k+i) xs[i]=true->f (δ++[some (.int ((k+i:Nat):Int)),some (enc xs[i])])=some (g (k+i) xs[i])) →
  z1p (two (z4m c f δ)) (z0s k (xs.map enc))=some (((xs.zipIdx k).filter fun z=>p z.2 z.1).map fun z=>g z.2 z.1)
 |[],_,_,_=>rfl
 |x::r,k,hc,hf=>by
  have ih:=y4o (xs:=r) (k:=k+1) p g (fun i h=>by
   have:=hc (i+1) (by simpa using h)
   have e:k+1+i=k+(i+1):=by omega
   rw [e]
   simpa using this) fun i h hp=>by
   have e:k+1+i=k+(i+1):=by omega
   rw [e]at hp ⊢
   have:=hf (i+1) (by simpa using h) (by simpa using hp)
   simpa using this
  show z1p _ (.tup [.int (k:Nat),enc x]::z0s (k+1) (r.map enc))=_
  unfold z1p
  rw [ih]
  have h0:=hc 0 (by simp)
  have h1:=hf 0 (by simp)
  simp only [Nat.add_zero,List.getElem_cons_zero]at h0 h1
  have e:two (z4m c f δ) (.tup [.int (k:Nat),enc x])=some (if p k x=true then some (g k x)else none):=by
   show z4m c f δ (.int (k:Nat)) (enc x)=_
   unfold z4m
   rw [h0]
   cases hp:p k x with
   |true=>
    have:=h1 hp
    show(if true=true then(f (δ++[some (.int (k:Nat)),some (enc x)])).map some else some none)=_
    rw [if_pos rfl,this]
    rfl
   |false=>rfl
  rw [e,List.zipIdx_cons,bL]
  show some (x0p _ _)=_
  cases hp:p k x with
  |true=>rfl
  |false=>rfl
theorem cx2_of{α:Type}{enc:α->D}{c:DS->Option Bool}{f:DE}{δ:DS}(p:Nat->α->Bool)(g:Nat->α->D){xs:List α}(hl:xs.length≤1000)(hc:∀i (h:i<xs.length),c (δ++[some (.int (i:Int)),some (enc xs[i])])=some (p i xs[i]))(hf:∀i (h:i<xs.length),p i xs[i]=true->f (δ++[some (.int (i:Int)),some (enc xs[i])])=some (g i xs[i])):
  z2c (some (z0s 0 (xs.map enc))) (two (z4m c f δ))=some ((xs.zipIdx.filter fun z=>p z.2 z.1).map fun z=>g z.2 z.1):=by
 rw [z4P (by rw [z7a,am];omega)]
 refine y4o p g (fun i h=>?_) fun i h hp=>?_
 ·rw [Nat.zero_add];exact hc i h
 ·rw [Nat.zero_add]at hp ⊢;exact hf i h hp
theorem enum_th{th:List Nat}:y2E (thD th)=some (z0s 0 (th.map nD)):=(rfl)
theorem x3O{a b:List Nat}(h:a.length+b.length≤1000000):x2W (some (thD a)) (some (thD b))=some ((a++b).map nD):=by
 show x2W (some (.lst (a.map nD))) (some (.lst (b.map nD)))=_
 rw [x3h (by rw [am,am];exact h),aI]
theorem z7p(o:List Nat):D.lst (o.map nD)=thD o:=(rfl)
theorem th_one{j:Nat}:D.lst [.int (j:Int)]=thD [j]:=(rfl)
theorem z2J(o:List Nat):z6d (some (o.map nD))=some (o.map nD):=z1T (z8f o)
theorem z4i:z6d (some [])=some []:=(rfl)
theorem x2I:D.lst []=thD []:=(rfl)
def movX(x:Option D)(i j:Nat)(s:SS):Option Out:=match x with
 |some d=>some (.nx (((z0z j s).set j none).set i (some (.ow d))))
 |none=>none
theorem x2w{i j:Nat}{s:SS}:movO i j s=movX (owA j s) i j s:=by
 unfold movO owA movX
 generalize s[j]? = z
 rcases z with _ | _ | x
 ·rfl
 ·rfl
 ·cases x <;> rfl
theorem x2Y{d:D}{i j:Nat}{s:SS}:movX (some d) i j s=some (.nx (((z0z j s).set j none).set i (some (.ow d)))):=(rfl)
theorem z3V{c:DS->Option Bool}{b:SS->Option Out}{QO:Out->Prop}(I:Nat->SS->Prop):∀{n:Nat} {s:SS},I n s->(∀n δ,I n δ->∃k,c (z0u δ)=some k∧(k=false->QO (.nx δ))∧(k=true->∃n',n=n'+1∧hol (b δ) fun o=>match o with | .nx δ'=>I n' δ' | .ct δ'=>I n' δ' | .bk δ'=>QO (.nx δ') | .rt d=>QO (.rt d) | .rb d δ'=>QO (.rb d δ') | .ex e δ'=>QO (.ex e δ')))->∀{f:Nat},n<f->hol (z3L c b f s) QO
 |n,s,h0,hs,0,hf=>absurd hf (by omega)
 |n,s,h0,hs,f+1,hf=>by
  obtain⟨k,ec,h1,h2⟩:=hs n s h0
  unfold z3L
  rw [ec]
  cases k with
  |false=>exact⟨_,rfl,h1 rfl⟩
  |true=>
   obtain⟨n',rfl,o,eb,q⟩:=h2 rfl
   show hol ((b s).bind _) QO
   rw [eb]
   cases o with
   |nx s1=>exact z3V I q hs (by omega)
   |ct s1=>exact z3V I q hs (by omega)
   |bk s1=>exact⟨_,rfl,q⟩
   |rt d=>exact⟨_,rfl,q⟩
   |rb d s1=>exact⟨_,rfl,q⟩
   |ex e s1=>exact⟨_,rfl,q⟩
theorem y7j{np nl:Nat}{b:SS->Option Out}{ds:List D}{d:D}(hl:ds.length=np)(h:hol (b (ds.map (fun d=>some (.sh d))++ak nl none)) fun o=>o = .rt d):x3t np nl b ds=some (.val d):=by
 unfold x3t
 rw [if_pos hl,hol_is.mp h]
def rsX(c:Nat)(x:Option D)(s:SS):Option Out:=match x with
 |some _=>some (.ex c s)
 |none=>none
theorem y4c{c:Nat}{f:DE}{s:SS}:z6a c f s=rsX c (f (z0u s)) s:=by
 unfold z6a rsX
 generalize f (z0u s)=x
 cases x <;> rfl
theorem y3T{c:Nat}{d:D}{s:SS}:rsX c (some d) s=some (.ex c s):=(rfl)
theorem y4e{m:List D->Option XO}{fl:List DE}{δ:DS}:z8e m fl δ=(z0o fl δ).bind m:=(rfl)
theorem y3r{m:List D->Option XO}{fl:List DE}{δ:DS}:y4f m fl δ=valO ((z0o fl δ).bind m):=(rfl)
def repO(x y:Option D):Option (List D):=x.bind fun a=>y.bind fun b=>repLs a b
theorem x2j{f g:DE}{δ:DS}:dRep f g δ=repO (f δ) (g δ):=(rfl)
theorem y2m{d:D}{n:Nat}(h:n≤1000000):repO (some (.lst [d])) (some (.int (n:Int)))=some (ak n d):=by
 have e:∀k:Nat,(ak k [d]).flatten=ak k d:=fun k=>by
  induction k with
  |zero=>rfl
  |succ k ih=>rw [bA,bQ,ih,bA];rfl
 show(if(0≤(n:Int)∧(n:Int)≤1000000)∧[d].length*(n:Int).toNat≤sizeLine then some (ak (n:Int).toNat [d]).flatten else none)=_
 rw [if_pos ⟨⟨by omega,by omega⟩,z4h (by simp;exact h)⟩,cB,e]
theorem y3p{f g:DE}{δ:DS}:y9g f g δ=o2 mkD1 (f δ) (g δ):=ev_d2
theorem y7G{f g h:DE}{δ:DS}:x0L f g h δ=rngN (f δ) (g δ) (h δ):=(rfl)
theorem y7S{a b:Int}:mkD1 (.int a) (.int b)=some (.dct [.inl a] [.int b]):=(rfl)
def forX2(i j:Nat)(xs:Option (List D))(b:SS->Option Out)(s:SS):Option Out:=xs.bind fun ds=>z4K i j b ds s
theorem y4t{i j:Nat}{f:DS->Option (List D)}{g:SS->Option Out}{s:SS}:y6s i j f g s=forX2 i j (f (shV s)) g s:=(rfl)
theorem y6H{i j:Nat}{ds:List D}{b:SS->Option Out}{s:SS}:forX2 i j (some ds) b s=z4K i j b ds s:=(rfl)
theorem z8E{α:Type}{enc:α->D}{i j:Nat}{b:SS->Option Out}{QO:Out->Prop}{xs:List α}(I:List α->SS->Prop)(hs:∀pre x post,xs=pre++x::post->∀δ,I pre δ->hol (b ((δ.set i (some (.sh (.int ((pre.length:Nat):Int))))).set j (some (.sh (enc x))))) fun o=>match o with | .nx δ'=>I (pre++[x]) δ' | .ct δ'=>I (pre++[x]) δ' | .bk δ'=>QO (.nx δ') | .rt d=>QO (.rt d) | .rb d δ'=>QO (.rb d δ') | .ex c δ'=>QO (.ex c δ'))(he:∀δ,I xs δ->QO (.nx δ)):
  ∀{post pre:List α} {s:SS},xs=pre++post->I pre s->hol (z4K i j b (z0s pre.length (post.map enc)) s) QO
 |[],pre,s,e,h=>⟨_,rfl,he s (by rw [e,aP];exact h)⟩
 |x::post,pre,s,e,h=>by
  obtain⟨o,eo,q⟩:=hs pre x post e s h
  have e2:z0s pre.length ((x::post).map enc) = .tup [.int ((pre.length:Nat):Int),enc x]::z0s (pre++[x]).length (post.map enc):=by
   rw [aG,aF]
   rfl
  rw [e2]
  unfold z4K
  show hol ((b ((s.set i (some (.sh (.int ((pre.length:Nat):Int))))).set j (some (.sh (enc x))))).bind _) QO
  rw [eo]
  have e3:xs=(pre++[x])++post:=by rw [e];simp
  cases o with
  |nx s1=>exact z8E I hs he e3 q
  |ct s1=>exact z8E I hs he e3 q
  |bk s1=>exact⟨_,rfl,q⟩
  |rt d=>exact⟨_,rfl,q⟩
  |rb d s1=>exact⟨_,rfl,q⟩
  |ex c s1=>exact⟨_,rfl,q⟩
theorem x3F{d:D}:valO (some (.val d))=some d:=(rfl)
def xeO(x:Option XO)(s:SS):Option Out:=match x with
 |some (.val _)=>some (.nx s)
 |some (.exc c)=>some (.ex c s)
 |none=>none
theorem y3s{F:DS->Option XO}{s:SS}:y8X F s=xeO (F (z0u s)) s:=by
 unfold y8X xeO
 generalize F (z0u s)=x
 rcases x with _ | _ | _ <;> rfl
theorem x3b{d:D}{s:SS}:xeO (some (.val d)) s=some (.nx s):=(rfl)
theorem y5Q{d:D}{r:SS}:y1x (some (.ow d)::r) 0=some d:=(rfl)
theorem y8F{x:Option SD}{r:SS}{i:Nat}:y1x (x::r) (i+1)=y1x r i:=by
 unfold y1x
 rw [eV]
end L2
namespace L2
open PySem
def iv1:Option D->Option (Int×Nat)
 |some (.int j)=>if -(2 ^ 62)≤j∧j<2 ^ 62 then some (0,j.toNat)else none
 |_=>none
theorem x3G{f:DE}{δ:DS}:dIv1 f δ=iv1 (f δ):=(rfl)
def forIX(i:Nat)(o:Option (Int×Nat))(b:SS->Option Out)(s:SS):Option Out:=o.bind fun z=>z6j i b (z4p z.1 z.2) s
theorem y9A{i:Nat}{f:DS->Option (Int×Nat)}{b:SS->Option Out}{s:SS}:forI i f b s=forIX i (f (z0u s)) b s:=(rfl)
theorem y7p{i:Nat}{lo:Int}{n:Nat}{b:SS->Option Out}{s:SS}:forIX i (some (lo,n)) b s=z6j i b (z4p lo n) s:=(rfl)
theorem eo_iv1{n:Int}(h:-(2 ^ 62)≤n∧n<2 ^ 62):iv1 (some (.int n))=some (0,n.toNat):=if_pos h
theorem y8g{m:Nat}(h:m≤1000000):iv1 (some (.int (m:Int)))=some (0,m):=by rw [eo_iv1 (by omega)];rfl
def r3O(x y z:Option D):Option Out:=match x,y,z with
 |some d,some e,some f=>some (.rt (.lst [d,e,f]))
 |_,_,_=>none
theorem y8d{i j l:Nat}{s:SS}:ret3 i j l s=r3O (y1x s i) (y1x s j) (y1x s l):=by
 unfold ret3 r3O
 generalize y1x s i=x
 generalize y1x s j=y
 generalize y1x s l=z
 rcases x with _ | x <;> rcases y with _ | y <;> rcases z with _ | z <;> rfl
theorem eo_r3{d e f:D}:r3O (some d) (some e) (some f)=some (.rt (.lst [d,e,f])):=(rfl)
def okN(n:Nat)(d:D):Prop:=(toP d).canLay0=true∧(toP d).depth≤n
theorem y7s{i:Int}:okN 0 (.int i):=⟨rfl,ao 0⟩
theorem okP_of{n:Nat}{d:D}(h:okN n d)(hn:n≤60):okP d=true:=by
 unfold okP
 rw [aH,decide_eq_true_eq]
 exact⟨h.1,ba h.2 hn⟩
theorem y8l{n:Nat}{d:D}(h:okN n d)(hn:n≤60):neD d d=some (.bl false):=ne_self (okP_of h hn)
theorem z9R{α:Type}{enc:α->D}{xs:List α}{x:α}(hl:xs.length≤1000000):m0V z9a (some (.lst (xs.map enc))) (some [enc x])=some (.lst ((xs++[x]).map enc)):=by
 show(if(xs.map enc).length<sizeLine then some (xs.map enc++[enc x])else none).map D.lst=_
 rw [am,if_pos (by rw [PySem.sizeLine_eq];omega),aI]
 rfl
theorem x1H{α:Type}{enc:α->D}{xs:List α}{x:α}{b:Nat}(hb:b≤xs.length)(hl:xs.length≤1000000):m0V insF (some (.lst (xs.map enc))) (some [.int (b:Int),enc x])=some (.lst ((xs.take b++x::xs.drop b).map enc)):=by
 show Option.map _ (if(xs.map enc).length<sizeLine∧-(2 ^ 63)≤(b:Int)∧(b:Int)<2 ^ 63 then _ else none)=_
 rw [am,if_pos ⟨by rw [PySem.sizeLine_eq];omega,by omega,by omega⟩,ins_at hb]
 rw [aI,aG,List.map_take,List.map_drop]
 rfl
theorem ix_map{α:Type}{enc:α->D}{xs:List α}{k:Nat}{x:α}(h:xs[k]? = some x):ixD (.lst (xs.map enc)) (.int (k:Int))=some (enc x):=z8v (by rw [aN,h];rfl)
theorem y6g{α:Type}{enc:α->D}{xs:List α}{k:Nat}{d:α}(h:k<xs.length):ixD (.lst (xs.map enc)) (.int (k:Int))=some (enc (xs.getD k d)):=ix_map (by simp [aJ,ac h])
theorem z6Q{α:Type}{enc:α->D}{xs:List α}:z1z [.lst (xs.map enc)]=some (.int (xs.length:Int)):=by
 show some (D.int ((xs.map enc).length:Int))=_
 rw [am]
theorem y5R{x:D}{r:List D}:atI (x::r) 0=some x:=y2V (j:=0) rfl
theorem ea_min{i j:Int}:minF [.int i,.int j]=some (.int (if j<i then j else i)):=(rfl)
def z1B(ws:List Int):D:=.lst (ws.map .int)
theorem y4r{f:DE}{δ:DS}:y4B f δ=(f δ).bind y0F:=(rfl)
theorem max_in{ws:List Int}(h:ws≠[]):y8k [z1B ws]=some (.int (mxI ws)):=by
 show((z1A (ws.map D.int)).bind fun ns=>if ns.isEmpty=true then none else some (D.int (mxI ns)))=_
 rw [z5j,aq,if_neg (by simpa using h)]
theorem min_in{ws:List Int}(h:ws≠[]):y8C [z1B ws]=some (.int (mnI ws)):=by
 show((z1A (ws.map D.int)).bind fun ns=>if ns.isEmpty=true then none else some (D.int (mnI ns)))=_
 rw [z5j,aq,if_neg (by simpa using h)]
theorem y4P{ws:List Int}{k:Nat}(h:k<ws.length):ixD (z1B ws) (.int (k:Int))=some (.int (ws.getD k 0)):=by
 have e:ws.getD k 0=ws[k]:=by simp [aJ,ac h]
 rw [e]
 exact z8v (by rw [ac (by simpa using h),cI])
theorem lst_in{ws:List Int}:D.lst (ws.map .int)=z1B ws:=(rfl)
theorem flat_in(o:List Int):z6d (some (o.map D.int))=some (o.map D.int):=z1T (z6p o)
end L2
namespace L2
open PySem
def apX(x y:Option D)(i j:Nat)(s:SS):Option Out:=match x,y with
 |some d,some (.lst ds)=>(z9a ds [d]).map fun ds'=>.nx (givS i j (.lst ds') s)
 |_,_=>none
theorem y5G{i j:Nat}{s:SS}:appO i j s=apX (owA j s) (owA i s) i j s:=by
 unfold appO owA apX
 rcases s[j]? with _ | _ | ⟨x | x | ⟨r,x⟩⟩ <;> rcases s[i]? with _ | _ | ⟨y | y | ⟨r',y⟩⟩ <;> (first | rfl | (cases y <;> rfl))
theorem ap_map{α:Type}{enc:α->D}{xs:List α}{x:α}{i j:Nat}{s:SS}(hl:xs.length≤1000000):apX (some (enc x)) (some (.lst (xs.map enc))) i j s=some (.nx (((z0z i (z0z j s)).set j none).set i (some (.ow (.lst ((xs++[x]).map enc)))))):=by
 have:z9a (xs.map enc) [enc x]=some (xs.map enc++[enc x]):=if_pos (by rw [am,PySem.sizeLine_eq];omega)
 show(z9a (xs.map enc) [enc x]).map _=_
 rw [this,aI]
 rfl
end L2
namespace L2
open PySem
def x0A(o x:Option D):Option D:=match x,o with
 |some (.lst es),some (.lst ds)=>if z1P es=true∧ds.length+es.length≤sizeLine then some (.lst (ds++es))else none
 |_,_=>none
theorem y4w{i:Nat}{f:DE}{s:SS}:y6i i f s=z8T i (x0A (owA i s) (f (z0u s))) s:=by
 unfold y6i owA
 cases f (z0u s)with
 |none=>rcases s[i]? with _ | _ | ⟨x | x | ⟨r,x⟩⟩ <;> rfl
 |some d=>
  cases d <;> rcases s[i]? with _ | _ | ⟨x | x | ⟨r,x⟩⟩ <;> (first | rfl | (cases x <;> (first | rfl | (show(if _ then _ else _)=z8T i (if _ then _ else _) s;split <;> rfl))))
theorem eo_extD{ds es:List D}(hi:z1P es=true)(h:ds.length+es.length≤1000000):x0A (some (.lst ds)) (some (.lst es))=some (.lst (ds++es)):=if_pos ⟨hi,z4h h⟩
end L2
namespace L2
open PySem
end L2
namespace L2
open PySem
def zpO(x y:Option D):Option (List D):=x.bind fun a=>y.bind fun b=>zipS a b
theorem ev_zip{f g:DE}{δ:DS}:dZip f g δ=zpO (f δ) (g δ):=(rfl)
end L2
namespace L2
open PySem
end L2
namespace L2
open PySem
def sgn(x:Str):Prop:=∀c∈x.cps.toList,c<128
theorem z5H{c:Nat}(h:c<128):sgn ⟨#[c]⟩:=fun d hd=>by
 have:d=c:=by simpa using hd
 omega
end L2
namespace L2
open PySem
section
variable{a:Addr}{m n k:Int}{es ls es':List D}{r:List D}{d d0 o:D}{s:SS}{i j:Nat}{f:DE}{fl:List DE}{args:List D}
theorem se(x:Str):(x==x)=true:=beq_self_eq_true x
end
end L2
namespace L2
open PySem
section
variable{a:Addr}{m n m' n':Int}{es ls es' ls':List D}{ds:List D}{d d0 o x y:D}{s s':SS}{i c np nl:Nat}{f f2 f3:DE}{fl:List DE}{args:List D}{g h:SS->Option Out}{F:List D->Option BO}{G:DS->Option XO}{δ:DS}
end
end L2
namespace L2
open PySem
section
variable{a:Addr}{m n m' n':Int}{es ls es' ls' xs ys:List D}{d d0 dw o x y:D}{s s' s2:SS}{i j nl:Nat}{b c:Bool}{f:DE}{g h:SS->Option Out}{F:F3}{τ υ:SS->Option (Bool×SS)}
end
end L2
set_option maxHeartbeats 4000000
namespace Prg
open PySem PySem.Spec PyProof.Rows L2
def top(i:Nat):Stmt:=PySem.Challenge.pw_askorder_k78_whole_shares.main.body.getD i (.Pass ⟨0,0,0,0⟩)
abbrev y5J:Stmt:=top 1
abbrev N_part:List Str:=["table", "things"]
abbrev x3f:List Str:=["table", "things"]
abbrev z8L:Stmt:=top 2
abbrev x0r:List Str:=["row", "things"]
abbrev y4v:List Str:=["row", "things"]
abbrev z9v:Stmt:=top 3
abbrev x1h:List Str:=["table", "one"]
abbrev y3Q:List Str:=["table", "one"]
abbrev z4G:Stmt:=top 4
abbrev y2C:List Str:=["table", "one"]
abbrev z7D:List Str:=["table", "one"]
abbrev z3Y:Stmt:=top 5
abbrev y1q:List Str:=["table", "one"]
abbrev z6b:List Str:=["table", "one"]
abbrev z4F:Stmt:=top 6
abbrev y2e:List Str:=["table", "one", "things"]
abbrev z6D:List Str:=["table", "one", "things"]
abbrev z3k:Stmt:=top 7
abbrev z9G:List Str:=["marks"]
abbrev z5p:List Str:=["marks"]
abbrev z9i:Stmt:=top 9
abbrev x1U:List Str:=["table", "one", "other"]
abbrev y3H:List Str:=["table", "one", "other"]
abbrev z4J:Stmt:=top 10
abbrev y2c:List Str:=["table"]
abbrev z7C:List Str:=["table"]
abbrev z3Z:Stmt:=top 11
abbrev y0m:List Str:=["table", "one"]
abbrev z5V:List Str:=["table", "one"]
abbrev z2a:Stmt:=top 13
abbrev z9y:List Str:=["table", "total", "mate"]
abbrev z3f:List Str:=["table"]
abbrev y7m:Stmt:=top 14
abbrev N_sign:List Str:=["table", "mate"]
abbrev x3E:List Str:=["table", "mate"]
abbrev z2Z:Stmt:=top 15
abbrev z9U:List Str:=["times"]
abbrev z5e:List Str:=["times"]
abbrev z7F:Stmt:=top 16
abbrev y8L:List Str:=["table", "things"]
abbrev y1F:List Str:=["table", "things"]
abbrev z8H:Stmt:=top 17
abbrev x1l:List Str:=["table"]
abbrev y2Z:List Str:=["table"]
abbrev y2Q:Stmt:=top 19
abbrev N_score:List Str:=["table", "weights", "thing"]
abbrev y8M:List Str:=["table", "weights", "thing"]
abbrev z4H:Stmt:=top 20
abbrev y2y:List Str:=["weights", "things"]
abbrev z6B:List Str:=["weights", "things"]
abbrev z7i:Stmt:=top 21
abbrev y7E:List Str:=["table", "weights"]
abbrev y0z:List Str:=["table", "weights"]
abbrev z3E:Stmt:=top 22
abbrev y0c:List Str:=["table", "weights", "thing"]
abbrev z5Y:List Str:=["table", "weights", "thing"]
abbrev z5t:Stmt:=top 23
abbrev y5g:List Str:=["table", "things", "weights"]
abbrev z8n:List Str:=["table"]
abbrev z4L:Stmt:=top 24
abbrev y2f:List Str:=["things", "picks", "thing"]
abbrev z7q:List Str:=["things"]
abbrev z4d:Stmt:=top 25
abbrev y1s:List Str:=["table", "things", "numbers", "divisor", "weights", "thing", "number"]
abbrev z5N:List Str:=["table", "things"]
abbrev z1R:Stmt:=top 26
abbrev z6f:List Str:=["numbers", "divisor", "number"]
abbrev z3s:List Str:=["numbers"]
abbrev z1U:Stmt:=top 27
abbrev z6e:List Str:=["one", "other", "rest"]
abbrev z3t:List Str:=["one", "other"]
abbrev z7x:Stmt:=top 32
abbrev y8y:List Str:=["table", "one"]
abbrev y0E:List Str:=["table", "one"]
abbrev z3M:Stmt:=top 33
abbrev y0J:List Str:=["table", "one", "steps", "edge", "further", "here", "other"]
abbrev z5X:List Str:=["table", "one"]
abbrev y2l:Stmt:=top 34
abbrev N_rings:List Str:=["table", "counts"]
abbrev x0a:List Str:=["table"]
abbrev z3m:Stmt:=top 35
abbrev z9j:List Str:=["counts", "wanted"]
abbrev z5g:List Str:=["counts", "wanted"]
abbrev z1F:Stmt:=top 37
abbrev z5M:List Str:=["table", "things"]
abbrev z2R:List Str:=["table", "things"]
abbrev z7g:Stmt:=top 38
abbrev y6O:List Str:=["table", "things"]
abbrev y0v:List Str:=["table", "things"]
abbrev z3p:Stmt:=top 39
abbrev z9r:List Str:=["table", "other", "things", "marks"]
abbrev z5n:List Str:=["table", "other", "things"]
abbrev z7G:Stmt:=top 40
abbrev y9m:List Str:=["table", "things", "wider", "further"]
abbrev y0t:List Str:=["table", "things"]
abbrev y2B:Stmt:=top 41
abbrev N_parts:List Str:=["table", "from_the_top", "found", "thing", "mates"]
abbrev y8A:List Str:=["table"]
abbrev z2p:Stmt:=top 42
abbrev z7I:List Str:=["table", "thing"]
abbrev z3G:List Str:=["table", "thing"]
abbrev z2P:Stmt:=top 43
abbrev z7M:List Str:=["table", "thing", "other"]
abbrev z4t:List Str:=["table", "thing", "other"]
abbrev z5J:Stmt:=top 45
abbrev y4X:List Str:=["value", "many"]
abbrev z8d:List Str:=["value", "many"]
abbrev z1G:Stmt:=top 46
abbrev z5y:List Str:=["order", "many", "told", "thing"]
abbrev z2T:List Str:=["order", "many"]
abbrev z4C:Stmt:=top 48
abbrev y1Z:List Str:=["pieces", "many", "told", "piece", "places", "place", "thing"]
abbrev z4y:List Str:=["pieces", "many"]
abbrev z9f:Stmt:=top 49
abbrev x1y:List Str:=["table", "pieces"]
abbrev z8G:List Str:=["table", "pieces"]
abbrev z3I:Stmt:=top 51
abbrev y0R:List Str:=["found"]
abbrev z5R:List Str:=["found"]
abbrev z2N:Stmt:=top 52
abbrev z7Q:List Str:=["script", "k"]
abbrev z4o:List Str:=["script", "k"]
abbrev z2n:Stmt:=top 53
abbrev z7u:List Str:=["cell", "many", "rows", "rest", "one", "other"]
abbrev z3D:List Str:=["cell", "many"]
abbrev z3H:Stmt:=top 54
abbrev y0r:List Str:=["script", "many", "outer", "inner", "homes", "k", "cell", "most", "size", "at", "turn"]
abbrev z5T:List Str:=["script"]
abbrev z3W:Stmt:=top 55
abbrev y0j:List Str:=["mixed", "one", "other"]
abbrev z5Z:List Str:=["mixed", "one", "other"]
abbrev z3S:Stmt:=top 56
abbrev y0f:List Str:=["mixed", "rows", "one"]
abbrev z5O:List Str:=["mixed"]
abbrev z3r:Stmt:=top 57
abbrev z9T:List Str:=["mixed", "pieces", "k"]
abbrev z5c:List Str:=["mixed"]
abbrev z4D:Stmt:=top 58
abbrev y2k:List Str:=["table", "things"]
abbrev z7s:List Str:=["table", "things"]
abbrev z2M:Stmt:=top 59
abbrev z7U:List Str:=["table", "found", "weight"]
abbrev z4w:List Str:=["table"]
abbrev z3O:Stmt:=top 60
abbrev y0Q:List Str:=["table", "pieces", "weights", "outer", "k", "inner", "at", "weight", "due"]
abbrev z5U:List Str:=["table", "pieces"]
abbrev z9u:Stmt:=top 61
abbrev N_law:List Str:=["script", "mixed", "table"]
abbrev P_law:List Str:=["script"]
theorem nd0:(["row", "things", "other"]:List Str).Nodup:=by decide +kernel
theorem nd1:(["table", "things", "one"]:List Str).Nodup:=by decide +kernel
theorem nd2:(["table", "one", "row"]:List Str).Nodup:=by decide +kernel
theorem nd3:(["table", "one", "things", "other"]:List Str).Nodup:=by decide +kernel
theorem nd4:(["marks", "place", "mark"]:List Str).Nodup:=by decide +kernel
theorem nd5:(["table", "one", "other"]:List Str).Nodup:=by decide +kernel
theorem nd6:(["table", "one"]:List Str).Nodup:=by decide +kernel
theorem nd7:(["table", "things", "thing"]:List Str).Nodup:=by decide +kernel
theorem nd8:(["table", "thing"]:List Str).Nodup:=by decide +kernel
theorem nd9:(["weights", "things", "thing"]:List Str).Nodup:=by decide +kernel
theorem nd10:(["table", "weights", "thing"]:List Str).Nodup:=by decide +kernel
theorem nd11:(["things", "picks", "thing", "pick"]:List Str).Nodup:=by decide +kernel
theorem nd12:(["counts", "wanted", "place", "count"]:List Str).Nodup:=by decide +kernel
theorem nd13:(["table", "counts", "count"]:List Str).Nodup:=by decide +kernel
theorem nd14:(["table", "counts", "one"]:List Str).Nodup:=by decide +kernel
theorem nd15:(["table", "other", "things", "marks", "thing"]:List Str).Nodup:=by decide +kernel
theorem nd16:(["table", "things", "other"]:List Str).Nodup:=by decide +kernel
theorem nd17:(["table", "thing", "other"]:List Str).Nodup:=by decide +kernel
theorem nd18:(["table", "pieces", "piece"]:List Str).Nodup:=by decide +kernel
theorem nd19:(["cell", "many", "rows", "rest", "one", "other", "k"]:List Str).Nodup:=by decide +kernel
theorem nd20:(["mixed", "rows", "one", "other"]:List Str).Nodup:=by decide +kernel
theorem nd21:(["mixed", "pieces", "k", "thing"]:List Str).Nodup:=by decide +kernel
theorem nd22:(["table", "things", "one", "other"]:List Str).Nodup:=by decide +kernel
theorem nd23:(["table", "pieces", "weights", "outer", "k", "inner", "at", "weight", "due", "piece"]:List Str).Nodup:=by decide +kernel
theorem nd24:(["script", "mixed", "table", "row"]:List Str).Nodup:=by decide +kernel
def z9F:SS->Option Out:=(z8g (z0w (z0U (z5l (z0d 1)) z3x (d2 ixD (z0d 0) (z0d 2)))))
def z5k:List D->Option D:=z1s 2 0 z9F
def y8n:SS->Option Out:=(z8g (mkL (z0U (z5l (z0d 1)) z3x (z0i z5k [(d2 ixD (z0d 0) (z0d 2)),(z0d 1)]))))
def z5Q:List D->Option D:=z1s 2 0 y8n
def z9P:SS->Option Out:=(z8g (z0w (z0U (z5l (z0d 0)) z3x (d2 ixD (z0d 2) (z0d 1)))))
def z6o:List D->Option D:=z1s 2 0 z9P
def z4z:SS->Option Out:=(z3z (z0i x1o [(mkL (z0U (z5l (z0d 2)) z3x (d2 ixD (d2 ixD (z0d 0) (z0d 1)) (z0d 3))))]))
def z3n:List D->Option D:=z1s 3 0 z4z
def z3q:SS->Option Out:=(z8g (z0w (z7A (y4Q (z0d 0)) (z1r (z0d 2)) (z0d 1))))
def z1f:List D->Option D:=z1s 1 0 z3q
def z4M:SS->Option Out:=(z8g (z0i z1f [(d2 ixD (z0d 0) (z0d 1))]))
def z1a:List D->Option D:=z1s 2 0 z4M
def z3N:SS->Option Out:=(z8g (z0i z1f [(z0i z6o [(z0d 0),(z0d 1)])]))
def z2B:List D->Option D:=z1s 2 0 z3N
def z9W:SS->Option Out:=(z3z (x0R (d2 ixD (d2 ixD (z0d 0) (z0d 1)) (z0d 2)) (z0i z3n [(z0d 0),(z0d 1),(z0i z1a [(z0d 0),(z0d 2)])])))
def z6y:List D->Option D:=z1s 3 0 z9W
def z3T:SS->Option Out:=(z3z (z0i anyF [(mkL (z0U (z3y (z0i z1z [(z0d 0)])) z3x (z0i z6y [(z0d 0),(z0d 2),(z0d 1)])))]))
def z2w:List D->Option D:=z1s 2 0 z3T
def z4R:SS->Option Out:=(z8g (z0w (z0U (z3y (z0i z1z [(z0d 0)])) (z6g (z1r (z0i z2w [(z0d 0),(z0d 1)]))) (z0d 1))))
def z3a:List D->Option D:=z1s 1 0 z4R
def y3D:SS->Option Out:=(z3z (dIf (z1r (d2 ixD (d2 ixD (z0d 0) (dC (.int 0))) (z0d 1))) (dC (.int 1)) (d1 uNeg (dC (.int 1)))))
def y1A:List D->Option D:=z1s 2 0 y3D
def z1Y:SS->Option Out:=(z3z (dIf (z0M (d2 eqD (d2 z6v (z0d 0) (dC (.int 2))) (dC (.int 0)))) (dC (.int 1)) (d1 uNeg (dC (.int 1)))))
def z0L:List D->Option D:=z1s 1 0 z1Y
def z7k:SS->Option Out:=(z8g (z0i z5Q [(z0d 0),(mkL (z0U (z3y (z0i z1z [(z0d 0)])) (z0M (d2 y6L (z0d 2) (z0d 1))) (z0d 2)))]))
def z1i:List D->Option D:=z1s 2 0 z7k
def z2f(mR:List D->Option D):SS->Option Out:=(z0O (ifO (z0M (d2 eqD (z0i z1z [(z0d 0)]) (dC (.int 0)))) (z3z (dC (.int 1))) z2d)
 (z0O (z7K 1 (dC (.int 0)))
 (z0O (z7R 2 (y6F (dC (.int 1)) (z0i z1z [(z0d 0)])) (z7K 1 (d2 y9r (z0d 1) (d2 x0c (d2 x0c (z0i z0L [(d2 subI (z0d 2) (dC (.int 1)))]) (z0i y1A [(z0d 0),(z0d 2)])) (z0i mR [(z0i z1i [(z0d 0),(mkL (z0o [(dC (.int 0)),(z0d 2)]))])])))))
 (z3z (z0d 1)))))
def z1j:Nat->List D->Option D
 |0=>z1s 1 2 fun _=>none
 |n+1=>z1s 1 2 (z2f (z1j n))
def z1w:List D->Option D:=z1j 12
def z8I:SS->Option Out:=(z8g (z0w (z0U (z3y (z0i z1z [(z0d 0)])) z3x (d2 x0c (z0i z0L [(z0d 1)]) (z0i z1w [(z0i z1i [(z0d 0),(mkL (z0o [(z0d 1)]))])])))))
def z6w:List D->Option D:=z1s 1 0 z8I
def z4A:SS->Option Out:=(z3z (z0i y5q [(mkL (z0U (z5l (z0d 1)) z3x (d2 ixD (z0d 0) (z0d 2))))]))
def z2m:List D->Option D:=z1s 2 0 z4A
def y2j:SS->Option Out:=(z3z (d2 subI (z0i z2m [(z0d 1),(z0i z1a [(z0d 0),(z0d 2)])]) (z0i z2m [(z0d 1),(z0i z2B [(z0d 0),(z0d 2)])])))
def z7j:List D->Option D:=z1s 3 0 y2j
def z2u:SS->Option Out:=(z0O (ifO (z0M (d2 gtI (d2 ixD (z0d 1) (z0d 2)) (dC (.int 0)))) (z3z (d2 eqD (z0i z7j [(z0d 0),(z0d 1),(z0d 2)]) (dC (.int 0)))) z2d)
 (z3z (d2 ltI (z0i z7j [(z0d 0),(z0d 1),(z0d 2)]) (dC (.int 0)))))
def z1O:List D->Option D:=z1s 3 0 z2u
def z7m:SS->Option Out:=(z0O (ifO (y5F (z0M (d2 ltI (z0i y8C [(z0d 1)]) (dC (.int 0)))) (z0M (d2 eqD (z0i y8k [(z0d 1)]) (dC (.int 0))))) (z3z (dC (.bl false))) z2d)
 (z3z (z0i x1o [(mkL (z0U (z3y (z0i z1z [(z0d 0)])) z3x (z0i z1O [(z0d 0),(z0d 1),(z0d 2)])))])))
def z4V:List D->Option D:=z1s 2 0 z7m
def z4E:SS->Option Out:=(z0O (y5f 1 (mkL (z0o [(z0w (z0o []))])))
 (z0O (z7R 2 (z5l (z0d 0)) (y5f 1 (mkL (x2v (z0d 1) (mkL (z0U (z5l (z0d 1)) z3x (z0w (x2v (z0d 3) (mkL (z0o [(z0d 2)]))))))))))
 (x1J (mkL (z0U (z5l (z0d 1)) (z0M (d2 eqD (d2 z6v (z0i z1z [(z0d 3)]) (dC (.int 2))) (dC (.int 1)))) (z0d 3))))))
def z3i:List D->Option D:=z1s 1 2 z4E
def z1S:SS->Option Out:=(z0O (z3L (z0M (d2 gtI (z0d 1) (dC (.int 0)))) (z0O (z7K 2 (d2 z6v (z0d 0) (z0d 1)))
 (z0O (z7K 0 (z0d 1))
 (z7K 1 (z0d 2)))) 100)
 (z3z (z0d 0)))
def z1n:List D->Option D:=z1s 2 1 z1S
def z1Q:SS->Option Out:=(z0O (z7K 1 (dC (.int 0)))
 (z0O (z7R 2 (z5l (z0d 0)) (z7K 1 (z0i z1n [(z0d 1),(z0i absF [(z0d 2)])])))
 (z3z (z0d 1))))
def z1l:List D->Option D:=z1s 1 2 z1Q
def z3K:SS->Option Out:=(z0O (y5f 2 (z0i z6w [(z0i z5Q [(z0d 0),(z0d 1)])]))
 (z0O (z7K 3 (z0i z1l [(z0d 2)]))
 (z0O (ifO (z0M (d2 ltI (d2 ixD (z0d 2) (dC (.int 0))) (dC (.int 0)))) (z7K 3 (d1 uNeg (z0d 3))) z2d)
 (z0O (z5q 4 (z0w (dRep (mkL (z0o [(dC (.int 0))])) (z0i z1z [(z0d 0)]))))
 (z0O (y6s 5 6 (dZip (z0d 1) (z0d 2)) (st0 4 (z0d 5) (d2 divN (z0d 6) (z0d 3))))
 (y3Z 4))))))
def z2A:List D->Option D:=z1s 2 5 z3K
def z5v:SS->Option Out:=(z7R 1 (z5l (z0i z3i [(z0i z3a [(z0d 0)])])) (z0O (z5q 2 (z0i z2A [(z0d 0),(z0d 1)]))
 (ifO (z1r (z0i z4V [(z0d 0),(z0d 2)])) (y3Z 2) z2d)))
def z4f:List D->Option D:=z1s 1 2 z5v
def z3X:SS->Option Out:=(z0O (z5q 2 (y9g (z0d 1) (z0d 1)))
 (z0O (z5q 3 (z0w (z0o [(z0d 1)])))
 (z0O (z3L (z1r (z0d 3)) (z0O (z5q 4 (z0w (z0o [])))
 (z0O (frzO 3 (z7R 5 (z5l (z0d 3)) (z7R 6 (z5l (z0i z1a [(z0d 0),(z0d 5)])) (ifO (x1u (z0d 6) (z0d 2)) (z0O (dput 2 (z0d 6) (z0d 5))
 (m0 4 z9a [(z0d 6)])) z2d))))
 (movO 3 4))) 100)
 (y3Z 2))))
def z2x:List D->Option D:=z1s 2 5 z3X
def z6E:SS->Option Out:=(z8g (z0w (z2S y0V [(z0i z2x [(z0d 0),(z0d 1)])])))
def z3U:List D->Option D:=z1s 2 0 z6E
def z3d:SS->Option Out:=(z8g (z0w (z7A (y4Q (z0d 0)) (z0M (d2 eqD (z0d 3) (z0d 1))) (z0d 2))))
def z1x:List D->Option D:=z1s 2 0 z3d
def y2i:SS->Option Out:=(z0O (z5q 1 (z0w (z0U (z3y (z0i z1z [(z0d 0)])) z3x (z0i z1z [(z0i z3U [(z0d 0),(z0d 2)])]))))
 (z8g (mkL (z0U (x0L (z0i z1z [(z0d 0)]) (dC (.int 0)) (d1 uNeg (dC (.int 1)))) (z0M (d2 inD (z0d 2) (z0d 1))) (z0i z1x [(z0d 1),(z0d 2)])))))
def z7t:List D->Option D:=z1s 1 1 y2i
def z2W:SS->Option Out:=(z0O (z5q 3 (z0w (z0U (z5l (z0d 2)) z3x (d2 ixD (d2 ixD (z0d 0) (z0d 1)) (z0d 4)))))
 (z3z (dOr (z0i x1o [(z0d 3)]) (d1 uNot (z0i anyF [(z0d 3)])))))
def z2b:List D->Option D:=z1s 3 1 z2W
def z7c:SS->Option Out:=(z8g (z0w (z0U (z3y (z0i z1z [(z0d 0)])) (y6P (z0M (d2 y6L (z0d 2) (z0d 1))) (z6g (z1r (z0i z2b [(z0d 0),(z0d 2),(z0d 1)])))) (z0d 2))))
def z1L:List D->Option D:=z1s 2 0 z7c
def z1E:SS->Option Out:=(z3z (d2 eqD (z0i z1z [(z0i z1L [(z0d 0),(z0d 1)])]) (dC (.int 0))))
def z0R:List D->Option D:=z1s 2 0 z1E
def z7h:SS->Option Out:=(z0O (z5q 2 (z0w (y4B (z0d 1))))
 (z0O (z5q 3 (z0i z1L [(z0d 0),(z0d 2)]))
 (z0O (z3L (z1r (z0d 3)) (z0O (z5q 2 (z0w (z2S y5p [(mkL (x2v (z0d 2) (z0d 3)))])))
 (z5q 3 (z0i z1L [(z0d 0),(z0d 2)]))) 100)
 (y3Z 2))))
def z4U:List D->Option D:=z1s 2 2 z7h
def z2O:SS->Option Out:=(z3z (d2 eqD (z0i z1z [(z0i z4U [(z0d 0),(mkL (z0o [(z0d 1),(z0d 2)]))])]) (z0i z1z [(z0d 0)])))
def z1k:List D->Option D:=z1s 3 0 z2O
def z2k:SS->Option Out:=(z8g (z0w (z0U (z3y (z0i z1z [(z0d 0)])) (y5F (z0M (d2 eqD (z0d 2) (z0d 1))) (z6g (z1r (z0i z1k [(z0d 0),(z0d 1),(z0d 2)])))) (z0d 2))))
def z1y:List D->Option D:=z1s 2 0 z2k
def z9s:SS->Option Out:=(z0O (z5q 1 (z0i z7t [(z0d 0)]))
 (z0O (ifO (z0M (d2 gtI (z0i z1z [(z0d 1)]) (dC (.int 1)))) (y3Z 1) z2d)
 (z0O (z5q 2 (z0w (z0o [])))
 (z0O (z7R 3 (z3y (z0i z1z [(z0d 0)])) (z0O (z5q 4 (z0i z1y [(z0d 0),(z0d 3)]))
 (ifO (z0M (d2 y6L (z0d 4) (z0d 2))) (appO 2 4) z2d)))
 (y3Z 2)))))
def z5A:List D->Option D:=z1s 1 4 z9s
def z5G:SS->Option Out:=(z3z (x0R (dIs "int" (z0d 0)) (x0R (d1 uNot (dIs "bool" (z0d 0))) (z8h leI ltI (dC (.int 0)) (z0d 0) (z0d 1)))))
def z4j:List D->Option D:=z1s 2 0 z5G
def z1H:SS->Option Out:=(z0O (ifO (z0M (d2 neD (z0i z1z [(z0d 0)]) (z0d 1))) (z3z (dC (.bl false))) z2d)
 (z0O (z5q 2 (dC (.dct [] [])))
 (z0O (z7R 3 (z5l (z0d 0)) (z0O (ifO (y5F (z6g (z1r (z0i z4j [(z0d 3),(z0d 1)]))) (x0w (z0d 3) (z0d 2))) (z3z (dC (.bl false))) z2d)
 (dput 2 (z0d 3) (dC (.bl true)))))
 (z3z (dC (.bl true))))))
def z1g:List D->Option D:=z1s 2 2 z1H
def z3e:SS->Option Out:=(z0O (z5q 2 (z0w (z0o [])))
 (z0O (z7R 3 (z5l (z0d 0)) (z0O (ifO (z0M (d2 eqD (z0i z1z [(z0d 3)]) (dC (.int 0)))) (z6a 1 (dC (.str "a piece is empty"))) z2d)
 (y6i 2 (z0d 3))))
 (z0O (ifO (z6g (z1r (z0i z1g [(z0d 2),(z0d 1)]))) (z6a 1 (dC (.str "the pieces do not tell each thing once and nothing else"))) z2d)
 (z0O (z5q 4 (z0w (dRep (mkL (z0o [(dC (.int 0))])) (z0d 1))))
 (z0O (y6s 5 3 (y4Q (z0d 0)) (z7R 6 (z5l (z0d 3)) (st0 4 (z0d 6) (z0d 5))))
 (y3Z 4))))))
def z2j:List D->Option XO:=x3t 2 5 z3e
def z8Z:SS->Option Out:=(z0O (y8X (z8e z2j [(z0d 1),(z0i z1z [(z0d 0)])]))
 (z0O (ifO (z6g (z1r (z0i x1o [(mkL (z0U (z5l (z0d 1)) z3x (z0i z0R [(z0d 0),(z0d 2)])))]))) (z6a 1 (dC (.str "a piece does not stand together"))) z2d)
 (z8g (z0i z5Q [(z0d 0),(mkL (z0U (z5l (z0d 1)) z3x (d2 ixD (z0d 2) (dC (.int 0)))))]))))
def z6s:List D->Option XO:=x3t 2 0 z8Z
def z4b:SS->Option Out:=(z3z (x0R (dIs "int" (z0d 0)) (d1 uNot (dIs "bool" (z0d 0)))))
def z2t:List D->Option D:=z1s 1 0 z4b
def z1I:SS->Option Out:=(z0O (ifO (z0M (d2 ltI (z0d 1) (z0i z1z [(z0d 0)]))) (z3z (d2 ixD (z0d 0) (z0d 1))) z2d)
 (z3z (dC (.int 0))))
def z0p:List D->Option D:=z1s 2 0 z1I
def z2l:SS->Option Out:=(z0O (z5q 2 (mkL (z0U (z3y (z0d 1)) z3x (z0w (dRep (mkL (z0o [(dC (.bl false))])) (z0d 1))))))
 (z0O (z7K 3 (d2 z6v (d2 mulI (z0d 0) (dC (.int 48271))) (dC (.int 2147483647))))
 (z0O (z7R 4 (z3y (z0d 1)) (z7R 5 (y6F (d2 y9r (z0d 4) (dC (.int 1))) (z0d 1)) (z0O (st1 2 (z0d 4) (z0d 5) (d2 eqD (d2 z6v (z0d 3) (dC (.int 2))) (dC (.int 0))))
 (z0O (st1 2 (z0d 5) (z0d 4) (d2 eqD (d2 z6v (z0d 3) (dC (.int 2))) (dC (.int 1))))
 (z7K 3 (d2 x0e (z0d 3) (dC (.int 2))))))))
 (y3Z 2))))
def z1b:List D->Option D:=z1s 2 4 z2l
def z3R:SS->Option Out:=(z0O (z7K 1 (d2 y9r (dC (.int 1)) (d2 z6v (z0i z0p [(z0d 0),(dC (.int 0))]) (dC (.int 4)))))
 (z0O (ifO (z0M (d2 eqD (d2 z6v (d2 x0e (z0i z0p [(z0d 0),(dC (.int 0))]) (dC (.int 4))) (dC (.int 4))) (dC (.int 1)))) (z7K 1 (d2 y9r (z0d 1) (dC (.int 4)))) z2d)
 (z0O (z5q 2 (z0i z1b [(z0i z0p [(z0d 0),(dC (.int 1))]),(z0d 1)]))
 (z0O (z5q 3 (z0w (z0o [])))
 (z0O (z5q 4 (z0w (z0o [])))
 (z0O (forI 5 (dIv1 (z0i z1z [(z0d 2)])) (z0O (z5q 6 (z0i z0p [(z0d 0),(d2 y9r (dC (.int 2)) (z0d 5))]))
 (z0O (z7K 7 (d2 y9r (d2 subI (d2 subI (dC (.int 9)) (z0i z1z [(z0d 4)])) (z0i z1z [(z0d 2)])) (z0d 5)))
 (z0O (z7K 8 (d2 ixD (mkL (z0o [(dC (.int 1)),(z0i minF [(dC (.int 3)),(z0d 7)]),(d2 y9r (dC (.int 1)) (d2 z6v (d2 x0e (z0d 6) (dC (.int 4))) (z0d 7)))])) (z0i minF [(d2 z6v (z0d 6) (dC (.int 4))),(dC (.int 2))])))
 (z0O (y2u 3 (z0i z1b [(d2 x0e (z0d 6) (dC (.int 32))),(z0d 8)]))
 (z7R 9 (z3y (z0d 8)) (z0O (z7K 10 (d2 z6v (z0i z0p [(z0d 0),(d2 y9r (dC (.int 6)) (z0i z1z [(z0d 4)]))]) (d2 y9r (z0i z1z [(z0d 4)]) (dC (.int 1)))))
 (m0 4 insF [(z0d 10),(mkT (z0o [(z0d 5),(z0d 9)]))]))))))))
 (ret3 2 3 4)))))))
def z1N:List D->Option D:=z1s 1 10 z3R
def z2C:SS->Option Out:=(z0O (ifO (z0M (d2 eqD (d2 ixD (z0d 1) (dC (.int 0))) (d2 ixD (z0d 2) (dC (.int 0))))) (z3z (d2 ixD (d2 ixD (d2 ixD (d2 ixD (z0d 0) (dC (.int 1))) (d2 ixD (z0d 1) (dC (.int 0)))) (d2 ixD (z0d 1) (dC (.int 1)))) (d2 ixD (z0d 2) (dC (.int 1))))) z2d)
 (z3z (d2 ixD (d2 ixD (d2 ixD (z0d 0) (dC (.int 0))) (d2 ixD (z0d 1) (dC (.int 0)))) (d2 ixD (z0d 2) (dC (.int 0))))))
def z2E:List D->Option D:=z1s 3 0 z2C
def z3J:SS->Option Out:=(z0O (z5q 1 (z0w (z0o [])))
 (z0O (z7R 2 (z5l (d2 ixD (z0d 0) (dC (.int 2)))) (y2u 1 (mkL (z0U (z5l (d2 ixD (z0d 0) (dC (.int 2)))) z3x (z0i z2E [(z0d 0),(z0d 2),(z0d 3)])))))
 (y3Z 1)))
def z2y:List D->Option D:=z1s 1 2 z3J
def z3c:SS->Option Out:=(z0O (z5q 1 (z0w (z0o [])))
 (z0O (forI 2 (dIv1 (z0i z1z [(d2 ixD (z0d 0) (dC (.int 0)))])) (y2u 1 (z0w (z0U (z3y (z0i z1z [(d2 ixD (z0d 0) (dC (.int 2)))])) (z0M (d2 eqD (d2 ixD (d2 ixD (d2 ixD (z0d 0) (dC (.int 2))) (z0d 3)) (dC (.int 0))) (z0d 2))) (z0d 3)))))
 (y3Z 1)))
def z1Z:List D->Option D:=z1s 1 2 z3c
def z4Q:SS->Option Out:=(z8g (mkL (z0U (z5l (z0d 1)) z3x (z0w (z0U (z5l (z0d 1)) z3x (d2 ixD (d2 ixD (z0d 0) (z0d 2)) (z0d 3)))))))
def z2Y:List D->Option D:=z1s 2 0 z4Q
def z2K:SS->Option Out:=(z0O (y5f 1 (z0i z4f [(z0d 0)]))
 (z0O (ifO (y5F (z6g (z1r (dIs "list" (z0d 1)))) (z0M (d2 neD (z0i z1z [(z0d 1)]) (z0i z1z [(z0d 0)])))) (x1J (dC .non)) z2d)
 (z0O (z7R 2 (z5l (z0d 1)) (ifO (y5F (z6g (z1r (z0i z2t [(z0d 2)]))) (z0M (d2 ltI (z0d 2) (dC (.int 0))))) (x1J (dC .non)) z2d))
 (z0O (ifO (z0M (d2 eqD (z0i y5q [(z0d 1)]) (dC (.int 0)))) (x1J (dC .non)) z2d)
 (x1J (z0d 1))))))
def z0J:List D->Option D:=z1s 1 2 z2K
def z3B:SS->Option Out:=(z0O (y5f 2 (z0i z0J [(z0d 0)]))
 (z0O (y5f 3 (z0i z0J [(y4f z6s [(z0d 0),(mkL (z0U (z5l (z0d 1)) z3x (z0w (z2S z9B [(z0d 9)]))))])]))
 (z0O (ifO (y5F (dIsN (z0d 2)) (y5F (dIsN (z0d 3)) (z0M (d2 neD (z0i z1z [(z0d 3)]) (z0i z1z [(z0d 1)]))))) (z3z (dC (.bl false))) z2d)
 (z0O (z7R 4 (z3y (z0i z1z [(z0d 1)])) (z0O (y5f 5 (z0i z0J [(z0i z2Y [(z0d 0),(d2 ixD (z0d 1) (z0d 4))])]))
 (z0O (ifO (dIsN (z0d 5)) (z3z (dC (.bl false))) z2d)
 (z7R 6 (z3y (z0i z1z [(z0d 5)])) (z0O (z7K 7 (d2 ixD (z0d 2) (d2 ixD (d2 ixD (z0d 1) (z0d 4)) (z0d 6))))
 (z0O (z7K 8 (d2 x0c (d2 x0c (d2 ixD (z0d 3) (z0d 4)) (d2 ixD (z0d 5) (z0d 6))) (z0i y5q [(z0d 2)])))
 (ifO (z0M (d2 neD (d2 x0c (d2 x0c (z0d 7) (z0i y5q [(z0d 3)])) (z0i y5q [(z0d 5)])) (z0d 8))) (z3z (dC (.bl false))) z2d)))))))
 (z3z (dC (.bl true)))))))
def z1J:List D->Option D:=z1s 2 7 z3B
def g_law:SS->Option Out:=(z0O (y5f 1 (z0i z1N [(z0d 0)]))
 (z0O (y5f 2 (z0i z2y [(z0d 1)]))
 (z3z (x0R (z0i z1J [(z0d 2),(z0i z1Z [(z0d 1)])]) (z0i z1J [(z0d 2),(z0i z5A [(mkL (z0U (z5l (z0d 2)) z3x (z0w (z2S z9B [(z0d 3)]))))])])))))
def y4S:List D->Option D:=z1s 1 2 g_law
structure Txt(mg:Str->Option Value):Prop where
 b_all:mg "all" = none
 b_enumerate:mg "enumerate" = none
 b_range:mg "range" = none
 b_len:mg "len" = none
 b_any:mg "any" = none
 b_sum:mg "sum" = none
 b_min:mg "min" = none
 b_max:mg "max" = none
 b_abs:mg "abs" = none
 b_zip:mg "zip" = none
 b_sorted:mg "sorted" = none
 b_set:mg "set" = none
 b_int:mg "int" = none
 b_isinstance:mg "isinstance" = none
 b_bool:mg "bool" = none
 b_list:mg "list" = none
structure Cls(K:aa)(mg:Str->Option Value)(base:Heap)(cl:Nat->Value):Prop where
 o_BadParts:∃C,cl 1 = .ref C∧OwnCls "BadParts" C bmVE "ValueError.__new__" mg base∧aO K mainGlobals "BadParts" = some (some (.ref C))∧True
section
variable{P:Program}{w:World}{K:aa}{mg:Str->Option Value}{base:Heap}{cl:Nat->Value}
theorem y7a:FnScope x0r y4v (z0e z8L):=z0G
theorem y5I(B:FnB K mg "picked" z8L y4v)(T:Txt mg):DefOk P w K mg base 1 "picked" (spN K z5k):=
 B.on fun F hm hb=>z2q (k:=0) (g:=z9F) F hm hb y7a rfl rfl fun cdv A outer s H E hr=>
  (z0j (z1X (z5f (z1u (N':=["row", "things", "other"])  rfl ⟨rfl,rfl,rfl,rfl,rfl⟩ (n:=2) rfl (z0D (z0g 1 (pv 1))) (fun _ _ _ _ _=>z0l (i:=2) nd0 rfl (Or.inl rfl)) (fun _ _ _ _ _=>z0y) (fun _ _ _ _ _=>(z0K (z0g 0 (pv 0)) (z0g 2 (pv 2))))))))
theorem sc_part:FnScope N_part x3f (z0e y5J):=z0G
theorem ok_part(B:FnB K mg "part" y5J x3f)(T:Txt mg)(G_picked:DefOk P w K mg base 1 "picked" (spN K z5k)):DefOk P w K mg base 2 "part" (spN K z5Q):=
 B.on fun F hm hb=>z2q (k:=1) (g:=y8n) F hm hb sc_part rfl rfl fun cdv A outer s H E hr=>
  (z0j (z1X (z2H (N':=["table", "things", "one"])  rfl ⟨rfl,rfl,rfl,rfl,rfl⟩ (n:=2) rfl (z0D (z0g 1 (pv 1))) (fun _ _ _ _ _=>z0l (i:=2) nd1 rfl (Or.inl rfl)) (fun _ _ _ _ _=>z0y) (fun _ _ _ _ _=>(z0h G_picked (hr.mono (by decide)) rfl (z0a (z0K (z0g 0 (pv 0)) (z0g 2 (pv 2))) (z0a (z0g 1 (pv 1)) z0c)))))))
theorem y6r:FnScope x1h y3Q (z0e z9v):=z0G
theorem y8t(B:FnB K mg "column" z9v y3Q)(T:Txt mg):DefOk P w K mg base 1 "column" (spN K z6o):=
 B.on fun F hm hb=>z2q (k:=0) (g:=z9P) F hm hb y6r rfl rfl fun cdv A outer s H E hr=>
  (z0j (z1X (z5f (z1u (N':=["table", "one", "row"])  rfl ⟨rfl,rfl,rfl,rfl,rfl⟩ (n:=2) rfl (z0D (z0g 0 (pv 0))) (fun _ _ _ _ _=>z0l (i:=2) nd2 rfl (Or.inl rfl)) (fun _ _ _ _ _=>z0y) (fun _ _ _ _ _=>(z0K (z0g 2 (pv 2)) (z0g 1 (pv 1))))))))
theorem y0S:FnScope y2e z6D (z0e z4F):=z0G
theorem y0U(B:FnB K mg "beats_all" z4F z6D)(T:Txt mg):DefOk P w K mg base 1 "beats_all" (spN K z3n):=
 B.on fun F hm hb=>z2q (k:=0) (g:=z4z) F hm hb y0S rfl rfl fun cdv A outer s H E hr=>
  (z0j (z0I (y3h rfl rfl T.b_all (y2n (z1u (N':=["table", "one", "things", "other"])  rfl ⟨rfl,rfl,rfl,rfl,rfl⟩ (n:=3) rfl (z0D (z0g 2 (pv 2))) (fun _ _ _ _ _=>z0l (i:=3) nd3 rfl (Or.inl rfl)) (fun _ _ _ _ _=>z0y) (fun _ _ _ _ _=>(z0K (z0K (z0g 0 (pv 0)) (z0g 1 (pv 1))) (z0g 3 (pv 3)))))))))
theorem z7X:FnScope z9G z5p (z0e z3k):=z0G
theorem z7Y(B:FnB K mg "places_true" z3k z5p)(T:Txt mg):DefOk P w K mg base 1 "places_true" (spN K z1f):=
 B.on fun F hm hb=>z2q (k:=0) (g:=z3q) F hm hb z7X rfl rfl fun cdv A outer s H E hr=>
  (z0j (z1X (z5f (y3n (N':=["marks", "place", "mark"])  rfl ⟨rfl,rfl,rfl,rfl,rfl⟩ (n:=1) rfl (z9C rfl T.b_enumerate (z0g 0 (pv 0))) (fun _ _ _ _ _=>x3j rfl (z0l (i:=1) nd4 rfl (Or.inl rfl)) (z0l (i:=2) nd4 rfl (Or.inl rfl))) (fun _ _ _ _ _=>z1t (z0S (z0g 2 (pv 2)))) (fun _ _ _ _ _=>(z0g 1 (pv 1)))))))
theorem y1o:FnScope y2C z7D (z0e z4G):=z0G
theorem y0W(B:FnB K mg "beaten_by" z4G z7D)(T:Txt mg)(G_places_true:DefOk P w K mg base 1 "places_true" (spN K z1f)):DefOk P w K mg base 2 "beaten_by" (spN K z1a):=
 B.on fun F hm hb=>z2q (k:=1) (g:=z4M) F hm hb y1o rfl rfl fun cdv A outer s H E hr=>
  (z0j (z1X (z0h G_places_true (hr.mono (by decide)) rfl (z0a (z0K (z0g 0 (pv 0)) (z0g 1 (pv 1))) z0c))))
theorem z9m:FnScope y1q z6b (z0e z3Y):=z0G
theorem z8V(B:FnB K mg "beaters_of" z3Y z6b)(T:Txt mg)(G_column:DefOk P w K mg base 1 "column" (spN K z6o))(G_places_true:DefOk P w K mg base 1 "places_true" (spN K z1f)):DefOk P w K mg base 2 "beaters_of" (spN K z2B):=
 B.on fun F hm hb=>z2q (k:=1) (g:=z3N) F hm hb z9m rfl rfl fun cdv A outer s H E hr=>
  (z0j (z1X (z0h G_places_true (hr.mono (by decide)) rfl (z0a (z1M (z0h G_column (hr.mono (by decide)) rfl (z0a (z0g 0 (pv 0)) (z0a (z0g 1 (pv 1)) z0c)))) z0c))))
theorem y9G:FnScope x1U y3H (z0e z9i):=z0G
theorem y8i(B:FnB K mg "covers" z9i y3H)(T:Txt mg)(G_beats_all:DefOk P w K mg base 1 "beats_all" (spN K z3n))(G_beaten_by:DefOk P w K mg base 2 "beaten_by" (spN K z1a)):DefOk P w K mg base 3 "covers" (spN K z6y):=
 B.on fun F hm hb=>z2q (k:=2) (g:=z9W) F hm hb y9G rfl rfl fun cdv A outer s H E hr=>
  (z0j (z0I (y1f (z0K (z0K (z0g 0 (pv 0)) (z0g 1 (pv 1))) (z0g 2 (pv 2))) (y0b (z1M (z0h G_beats_all (hr.mono (by decide)) rfl (z0a (z0g 0 (pv 0)) (z0a (z0g 1 (pv 1)) (z0a (z1M (z0h G_beaten_by (hr.mono (by decide)) rfl (z0a (z0g 0 (pv 0)) (z0a (z0g 2 (pv 2)) z0c)))) z0c)))))))))
theorem z8X:FnScope y0m z5V (z0e z3Z):=z0G
theorem z9z(B:FnB K mg "is_covered" z3Z z5V)(T:Txt mg)(G_covers:DefOk P w K mg base 3 "covers" (spN K z6y)):DefOk P w K mg base 4 "is_covered" (spN K z2w):=
 B.on fun F hm hb=>z2q (k:=3) (g:=z3T) F hm hb z8X rfl rfl fun cdv A outer s H E hr=>
  (z0j (z0I (x3B rfl rfl T.b_any (z1M (z2H (N':=["table", "one", "other"])  rfl ⟨rfl,rfl,rfl,rfl,rfl⟩ (n:=2) rfl (z1o rfl T.b_range (z0B rfl T.b_len (z0g 0 (pv 0)))) (fun _ _ _ _ _=>z0l (i:=2) nd5 rfl (Or.inl rfl)) (fun _ _ _ _ _=>z0y) (fun _ _ _ _ _=>(z0h G_covers (hr.mono (by decide)) rfl (z0a (z0g 0 (pv 0)) (z0a (z0g 2 (pv 2)) (z0a (z0g 1 (pv 1)) z0c))))))))))
theorem y1H:FnScope y2c z7C (z0e z4J):=z0G
theorem y1y(B:FnB K mg "uncovered" z4J z7C)(T:Txt mg)(G_is_covered:DefOk P w K mg base 4 "is_covered" (spN K z2w)):DefOk P w K mg base 5 "uncovered" (spN K z3a):=
 B.on fun F hm hb=>z2q (k:=4) (g:=z4R) F hm hb y1H rfl rfl fun cdv A outer s H E hr=>
  (z0j (z1X (z5f (z1u (N':=["table", "one"])  rfl ⟨rfl,rfl,rfl,rfl,rfl⟩ (n:=1) rfl (z1o rfl T.b_range (z0B rfl T.b_len (z0g 0 (pv 0)))) (fun _ _ _ _ _=>z0l (i:=1) nd6 rfl (Or.inl rfl)) (fun _ _ _ _ _=>z1t (z3A (z0S (z1M (z0h G_is_covered (hr.mono (by decide)) rfl (z0a (z0g 0 (pv 0)) (z0a (z0g 1 (pv 1)) z0c))))))) (fun _ _ _ _ _=>(z0g 1 (pv 1)))))))
theorem sc_sign:FnScope N_sign x3E (z0e y7m):=z0G
theorem ok_sign(B:FnB K mg "sign" y7m x3E)(T:Txt mg):DefOk P w K mg base 1 "sign" (spN K y1A):=
 B.on fun F hm hb=>z2q (k:=0) (g:=y3D) F hm hb sc_sign rfl rfl fun cdv A outer s H E hr=>
  (z0j (z0I (pd_if (z0S (z0K (z0K (z0g 0 (pv 0)) z0k) (z0g 1 (pv 1)))) z0k (y3z z0k))))
theorem z7V:FnScope z9U z5e (z0e z2Z):=z0G
theorem z7N(B:FnB K mg "turned_sign" z2Z z5e)(T:Txt mg):DefOk P w K mg base 1 "turned_sign" (spN K z0L):=
 B.on fun F hm hb=>z2q (k:=0) (g:=z1Y) F hm hb z7V rfl rfl fun cdv A outer s H E hr=>
  (z0j (z0I (pd_if (z6O hr.units (z3Q (z0g 0 (pv 0)) z0k) z0k) z0k (y3z z0k))))
theorem y5v:FnScope y8L y1F (z0e z7F):=z0G
theorem y5l(B:FnB K mg "without" z7F y1F)(T:Txt mg)(G_part:DefOk P w K mg base 2 "part" (spN K z5Q)):DefOk P w K mg base 3 "without" (spN K z1i):=
 B.on fun F hm hb=>z2q (k:=2) (g:=z7k) F hm hb y5v rfl rfl fun cdv A outer s H E hr=>
  (z0j (z1X (z0h G_part (hr.mono (by decide)) rfl (z0a (z0g 0 (pv 0)) (z0a (y2n (z1u (N':=["table", "things", "thing"])  rfl ⟨rfl,rfl,rfl,rfl,rfl⟩ (n:=2) rfl (z1o rfl T.b_range (z0B rfl T.b_len (z0g 0 (pv 0)))) (fun _ _ _ _ _=>z0l (i:=2) nd7 rfl (Or.inl rfl)) (fun _ _ _ _ _=>z1t (x0b hr.units (z0g 2 (pv 2)) (z0g 1 (pv 1)))) (fun _ _ _ _ _=>(z0g 2 (pv 2))))) z0c)))))
theorem sc_pairing_sum:FnScope z9y z3f (z0e z2a):=z0G
theorem z3C(B:FnB K mg "pairing_sum" z2a z3f)(T:Txt mg)(G_sign:DefOk P w K mg base 1 "sign" (spN K y1A))(G_turned_sign:DefOk P w K mg base 1 "turned_sign" (spN K z0L))(G_without:DefOk P w K mg base 3 "without" (spN K z1i)):∀n:Nat,DefOk P w K mg base (4+n) "pairing_sum" (spN K (z1j n))
 |0=>B.on fun F hm hb=>z2q (k:=3) (g:=fun _=>none) F hm hb sc_pairing_sum rfl rfl fun cdv A outer s H E hr=>x2i
 |n+1=>by
  have G_pairing_sum:=z3C B T G_sign G_turned_sign G_without n
  exact B.on fun F hm hb=>z2q (k:=4+n) (g:=z2f (z1j n)) F hm hb sc_pairing_sum rfl rfl fun cdv A outer s H E hr=>
  (z0f (z7L (z6O hr.units (z0B rfl T.b_len (z0g 0 (pv 0))) z0k) (z0j (z0I z0k)) z1h)
   (z0f (z1C (z0H (i:=1) sc_pairing_sum.nd rfl (Or.inl rfl) z0k))
   (z0f (z4a PassesOwn.never rfl (y9B rfl T.b_range z0k (z0B rfl T.b_len (z0g 0 (pv 0)))) (z0l (i:=2) sc_pairing_sum.nd rfl (Or.inl rfl)) (z0j (z1C (z0H (i:=1) sc_pairing_sum.nd rfl (Or.inl rfl) (z5m (z0g 1 (pv 1)) (z4I (z4I (z1M (z0h G_turned_sign (hr.mono (by omega)) rfl (z0a (y3R (z0g 2 (pv 2)) z0k) z0c))) (z1M (z0h G_sign (hr.mono (by omega)) rfl (z0a (z0g 0 (pv 0)) (z0a (z0g 2 (pv 2)) z0c))))) (z1M (z0h G_pairing_sum (hr.mono (by omega)) rfl (z0a (z1M (z0h G_without (hr.mono (by omega)) rfl (z0a (z0g 0 (pv 0)) (z0a (y2n (z0Y (z0a z0k (z0a (z0g 2 (pv 2)) z0c)) (Nat.le_of_ble_eq_true rfl))) z0c)))) z0c)))))))))
   (z0j (z0I (z0g 1 (pv 1)))))))
theorem z8b(B:FnB K mg "pairing_sum" z2a z3f)(T:Txt mg)(G_sign:DefOk P w K mg base 1 "sign" (spN K y1A))(G_turned_sign:DefOk P w K mg base 1 "turned_sign" (spN K z0L))(G_without:DefOk P w K mg base 3 "without" (spN K z1i)):DefOk P w K mg base 16 "pairing_sum" (spN K z1w):=z3C B T G_sign G_turned_sign G_without 12
theorem y8v:FnScope x1l y2Z (z0e z8H):=z0G
theorem y8x(B:FnB K mg "kernel" z8H y2Z)(T:Txt mg)(G_turned_sign:DefOk P w K mg base 1 "turned_sign" (spN K z0L))(G_without:DefOk P w K mg base 3 "without" (spN K z1i))(G_pairing_sum:DefOk P w K mg base 16 "pairing_sum" (spN K z1w)):DefOk P w K mg base 17 "kernel" (spN K z6w):=
 B.on fun F hm hb=>z2q (k:=16) (g:=z8I) F hm hb y8v rfl rfl fun cdv A outer s H E hr=>
  (z0j (z1X (z5f (z1u (N':=["table", "thing"])  rfl ⟨rfl,rfl,rfl,rfl,rfl⟩ (n:=1) rfl (z1o rfl T.b_range (z0B rfl T.b_len (z0g 0 (pv 0)))) (fun _ _ _ _ _=>z0l (i:=1) nd8 rfl (Or.inl rfl)) (fun _ _ _ _ _=>z0y) (fun _ _ _ _ _=>(z4I (z1M (z0h G_turned_sign (hr.mono (by decide)) rfl (z0a (z0g 1 (pv 1)) z0c))) (z1M (z0h G_pairing_sum (hr.mono (by decide)) rfl (z0a (z1M (z0h G_without (hr.mono (by decide)) rfl (z0a (z0g 0 (pv 0)) (z0a (y2n (z0Y (z0a (z0g 1 (pv 1)) z0c))) z0c)))) z0c)))))))))
theorem y0k:FnScope y2y z6B (z0e z4H):=z0G
theorem y1h(B:FnB K mg "weight_of" z4H z6B)(T:Txt mg):DefOk P w K mg base 1 "weight_of" (spN K z2m):=
 B.on fun F hm hb=>z2q (k:=0) (g:=z4A) F hm hb y0k rfl rfl fun cdv A outer s H E hr=>
  (z0j (z0I (y0p rfl rfl T.b_sum (y2n (z1u (N':=["weights", "things", "thing"])  rfl ⟨rfl,rfl,rfl,rfl,rfl⟩ (n:=2) rfl (z0D (z0g 1 (pv 1))) (fun _ _ _ _ _=>z0l (i:=2) nd9 rfl (Or.inl rfl)) (fun _ _ _ _ _=>z0y) (fun _ _ _ _ _=>(z0K (z0g 0 (pv 0)) (z0g 2 (pv 2)))))))))
theorem x1d:FnScope N_score y8M (z0e y2Q):=z0G
theorem x1T(B:FnB K mg "score" y2Q y8M)(T:Txt mg)(G_beaten_by:DefOk P w K mg base 2 "beaten_by" (spN K z1a))(G_beaters_of:DefOk P w K mg base 2 "beaters_of" (spN K z2B))(G_weight_of:DefOk P w K mg base 1 "weight_of" (spN K z2m)):DefOk P w K mg base 3 "score" (spN K z7j):=
 B.on fun F hm hb=>z2q (k:=2) (g:=y2j) F hm hb x1d rfl rfl fun cdv A outer s H E hr=>
  (z0j (z0I (y3R (z1M (z0h G_weight_of (hr.mono (by decide)) rfl (z0a (z0g 1 (pv 1)) (z0a (z1M (z0h G_beaten_by (hr.mono (by decide)) rfl (z0a (z0g 0 (pv 0)) (z0a (z0g 2 (pv 2)) z0c)))) z0c)))) (z1M (z0h G_weight_of (hr.mono (by decide)) rfl (z0a (z0g 1 (pv 1)) (z0a (z1M (z0h G_beaters_of (hr.mono (by decide)) rfl (z0a (z0g 0 (pv 0)) (z0a (z0g 2 (pv 2)) z0c)))) z0c)))))))
theorem z9g:FnScope y0c z5Y (z0e z3E):=z0G
theorem z8C(B:FnB K mg "is_even_at" z3E z5Y)(T:Txt mg)(G_score:DefOk P w K mg base 3 "score" (spN K z7j)):DefOk P w K mg base 4 "is_even_at" (spN K z1O):=
 B.on fun F hm hb=>z2q (k:=3) (g:=z2u) F hm hb z9g rfl rfl fun cdv A outer s H E hr=>
  (z0f (z7L (pt_gt (z0K (z0g 1 (pv 1)) (z0g 2 (pv 2))) z0k) (z0j (z0I (y7O hr.units (z1M (z0h G_score (hr.mono (by decide)) rfl (z0a (z0g 0 (pv 0)) (z0a (z0g 1 (pv 1)) (z0a (z0g 2 (pv 2)) z0c))))) z0k))) z1h)
   (z0j (z0I (pd_lt (z1M (z0h G_score (hr.mono (by decide)) rfl (z0a (z0g 0 (pv 0)) (z0a (z0g 1 (pv 1)) (z0a (z0g 2 (pv 2)) z0c))))) z0k))))
theorem y5w:FnScope y7E y0z (z0e z7i):=z0G
theorem y5m(B:FnB K mg "is_even" z7i y0z)(T:Txt mg)(G_is_even_at:DefOk P w K mg base 4 "is_even_at" (spN K z1O)):DefOk P w K mg base 5 "is_even" (spN K z4V):=
 B.on fun F hm hb=>z2q (k:=4) (g:=z7m) F hm hb y5w rfl rfl fun cdv A outer s H E hr=>
  (z0f (z7L (PW.pt (z6R (x1G (pd_minL rfl rfl T.b_min (z0g 1 (pv 1))) z0k) (z5u (z6O hr.units (pd_maxL rfl rfl T.b_max (z0g 1 (pv 1))) z0k)))) (z0j (z0I z7O)) z1h)
   (z0j (z0I (y3h rfl rfl T.b_all (z1M (z2H (N':=["table", "weights", "thing"])  rfl ⟨rfl,rfl,rfl,rfl,rfl⟩ (n:=2) rfl (z1o rfl T.b_range (z0B rfl T.b_len (z0g 0 (pv 0)))) (fun _ _ _ _ _=>z0l (i:=2) nd10 rfl (Or.inl rfl)) (fun _ _ _ _ _=>z0y) (fun _ _ _ _ _=>(z0h G_is_even_at (hr.mono (by decide)) rfl (z0a (z0g 0 (pv 0)) (z0a (z0g 1 (pv 1)) (z0a (z0g 2 (pv 2)) z0c)))))))))))
theorem sc_odd_picks:FnScope y2f z7q (z0e z4L):=z0G
theorem y0u(B:FnB K mg "odd_picks" z4L z7q)(T:Txt mg):DefOk P w K mg base 1 "odd_picks" (spR K z3i):=
 B.on fun F hm hb=>defR (k:=0) (g:=z4E) F hm hb sc_odd_picks rfl rfl fun cdv A outer s H E B hr=>
  (z0f (z5a (z0H (i:=1) sc_odd_picks.nd rfl (Or.inl rfl) (z1M (pn_list (x1m (z5f (z0Y z0c)) pan_nil)))))
   (z0f (z4a PassesOwn.never rfl (z0D (z0g 0 (pv 0))) (z0l (i:=2) sc_odd_picks.nd rfl (Or.inr rfl)) (z0j (z5a (z0H (i:=1) sc_odd_picks.nd rfl (Or.inl rfl) (y2n (y9x (z0g 1 (pv 1)) (z1M (z2H (N':=["things", "picks", "thing", "pick"])  rfl ⟨rfl,rfl,rfl,rfl,rfl⟩ (n:=3) rfl (z0D (z0g 1 (pv 1))) (fun _ _ _ _ _=>z0l (i:=3) nd11 rfl (Or.inl rfl)) (fun _ _ _ _ _=>z0y) (fun _ _ _ _ _=>(z5f (y9x (z0g 3 (pv 3)) (y2n (z0Y (z0a (z0g 2 (pv 2)) z0c))))))))))))))
   (z0j (y0s (y2n (z1u (N':=["things", "picks", "thing", "pick"])  rfl ⟨rfl,rfl,rfl,rfl,rfl⟩ (n:=3) rfl (z0D (z0g 1 (pv 1))) (fun _ _ _ _ _=>z0l (i:=3) nd11 rfl (Or.inl rfl)) (fun _ _ _ _ _=>z1t (z6O hr.units (z3Q (z0B rfl T.b_len (z0g 3 (pv 3))) z0k) z0k)) (fun _ _ _ _ _=>(z0g 3 (pv 3)))))))))
theorem sc_divisor_of_two:FnScope z6e z3t (z0e z1U):=z0G
theorem z5D(B:FnB K mg "divisor_of_two" z1U z3t)(T:Txt mg):DefOk P w K mg base 1 "divisor_of_two" (spN K z1n):=
 B.on fun F hm hb=>z2q (k:=0) (g:=z1S) F hm hb sc_divisor_of_two rfl rfl fun cdv A outer s H E hr=>
  (z0f (y2o 100 PassesOwn.never (pt_gt (z0g 1 (pv 1)) z0k) (z0f (z1C (z0H (i:=2) sc_divisor_of_two.nd rfl (Or.inl rfl) (z3Q (z0g 0 (pv 0)) (z0g 1 (pv 1)))))
   (z0f (z1C (z0H (i:=0) sc_divisor_of_two.nd rfl (Or.inl rfl) (z0g 1 (pv 1))))
   (z0j (z1C (z0H (i:=1) sc_divisor_of_two.nd rfl (Or.inl rfl) (z0g 2 (pv 2))))))))
   (z0j (z0I (z0g 0 (pv 0)))))
theorem sc_common_divisor:FnScope z6f z3s (z0e z1R):=z0G
theorem z5r(B:FnB K mg "common_divisor" z1R z3s)(T:Txt mg)(G_divisor_of_two:DefOk P w K mg base 1 "divisor_of_two" (spN K z1n)):DefOk P w K mg base 2 "common_divisor" (spN K z1l):=
 B.on fun F hm hb=>z2q (k:=1) (g:=z1Q) F hm hb sc_common_divisor rfl rfl fun cdv A outer s H E hr=>
  (z0f (z1C (z0H (i:=1) sc_common_divisor.nd rfl (Or.inl rfl) z0k))
   (z0f (z4a PassesOwn.never rfl (z0D (z0g 0 (pv 0))) (z0l (i:=2) sc_common_divisor.nd rfl (Or.inl rfl)) (z0j (z1C (z0H (i:=1) sc_common_divisor.nd rfl (Or.inl rfl) (z1M (z0h G_divisor_of_two (hr.mono (by decide)) rfl (z0a (z0g 1 (pv 1)) (z0a (pd_abs rfl T.b_abs (z0g 2 (pv 2))) z0c))))))))
   (z0j (z0I (z0g 1 (pv 1))))))
theorem sc_weights_on:FnScope y1s z5N (z0e z4d):=z0G
theorem z8J(B:FnB K mg "weights_on" z4d z5N)(T:Txt mg)(G_part:DefOk P w K mg base 2 "part" (spN K z5Q))(G_kernel:DefOk P w K mg base 17 "kernel" (spN K z6w))(G_common_divisor:DefOk P w K mg base 2 "common_divisor" (spN K z1l)):DefOk P w K mg base 18 "weights_on" (spN K z2A):=
 B.on fun F hm hb=>z2q (k:=17) (g:=z3K) F hm hb sc_weights_on rfl rfl fun cdv A outer s H E hr=>
  (z0f (z5a (z0H (i:=2) sc_weights_on.nd rfl (Or.inl rfl) (z1M (z0h G_kernel (hr.mono (by decide)) rfl (z0a (z1M (z0h G_part (hr.mono (by decide)) rfl (z0a (z0g 0 (pv 0)) (z0a (z0g 1 (pv 1)) z0c)))) z0c)))))
   (z0f (z1C (z0H (i:=3) sc_weights_on.nd rfl (Or.inl rfl) (z1M (z0h G_common_divisor (hr.mono (by decide)) rfl (z0a (z0g 2 (pv 2)) z0c)))))
   (z0f (z7L (x1G (z0K (z0g 2 (pv 2)) z0k) z0k) (z0j (z1C (z0H (i:=3) sc_weights_on.nd rfl (Or.inl rfl) (y3z (z0g 3 (pv 3)))))) z1h)
   (z0f (z0W (z0H (i:=4) sc_weights_on.nd rfl (Or.inl rfl) (z5f (y6W (y2n (z0Y (z0a z0k z0c))) (z0B rfl T.b_len (z0g 0 (pv 0)))))))
   (z0f (x3k PassesOwn.never rfl (pi_zipD rfl T.b_zip (z0g 1 (pv 1)) (z0g 2 (pv 2))) (y5L rfl (z0l (i:=5) sc_weights_on.nd rfl (Or.inl rfl)) (z0l (i:=6) sc_weights_on.nd rfl (Or.inl rfl))) (z0j (s_st0 (pv 4) (z0g 5 (pv 5)) (pd_divN (z0g 6 (pv 6)) (z0g 3 (pv 3))))))
   (z0j (z4u (pv 4))))))))
theorem sc_weighing:FnScope y5g z8n (z0e z5t):=z0G
theorem y1W(B:FnB K mg "weighing" z5t z8n)(T:Txt mg)(G_uncovered:DefOk P w K mg base 5 "uncovered" (spN K z3a))(G_is_even:DefOk P w K mg base 5 "is_even" (spN K z4V))(G_odd_picks:DefOk P w K mg base 1 "odd_picks" (spR K z3i))(G_weights_on:DefOk P w K mg base 18 "weights_on" (spN K z2A)):DefOk P w K mg base 19 "weighing" (spN K z4f):=
 B.on fun F hm hb=>z2q (k:=18) (g:=z5v) F hm hb sc_weighing rfl rfl fun cdv A outer s H E hr=>
  (z0j (z4a PassesOwn.never rfl (z0D (z6r G_odd_picks (hr.mono (by decide)) rfl (z0a (z1M (z0h G_uncovered (hr.mono (by decide)) rfl (z0a (z0g 0 (pv 0)) z0c))) z0c))) (z0l (i:=1) sc_weighing.nd rfl (Or.inl rfl)) (z0f (z0W (z0H (i:=2) sc_weighing.nd rfl (Or.inl rfl) (z0h G_weights_on (hr.mono (by decide)) rfl (z0a (z0g 0 (pv 0)) (z0a (z0g 1 (pv 1)) z0c)))))
   (z0j (z7L (z0S (z1M (z0h G_is_even (hr.mono (by decide)) rfl (z0a (z0g 0 (pv 0)) (z0a (z0g 2 (pv 2)) z0c))))) (z0j (z4u (pv 2))) z1h)))))
theorem sc_steps_from:FnScope y0J z5X (z0e z3M):=z0G
theorem z8W(B:FnB K mg "steps_from" z3M z5X)(T:Txt mg)(G_beaten_by:DefOk P w K mg base 2 "beaten_by" (spN K z1a)):DefOk P w K mg base 3 "steps_from" (spN K z2x):=
 B.on fun F hm hb=>z2q (k:=2) (g:=z3X) F hm hb sc_steps_from rfl rfl fun cdv A outer s H E hr=>
  (z0f (z0W (z0H (i:=2) sc_steps_from.nd rfl (Or.inl rfl) (x0B (z0g 1 (pv 1)) (z0g 1 (pv 1)))))
   (z0f (z0W (z0H (i:=3) sc_steps_from.nd rfl (Or.inl rfl) (z5f (z0Y (z0a (z0g 1 (pv 1)) z0c)))))
   (z0f (y2o 100 PassesOwn.never (z0S (z0g 3 (pv 3))) (z0f (z0W (z0H (i:=4) sc_steps_from.nd rfl (Or.inl rfl) (z5f (z0Y z0c))))
   (z0f (s_frz 3 (z4a PassesOwn.never rfl (z0D (z0g 3 (pv 3))) (z0l (i:=5) sc_steps_from.nd rfl (Or.inl rfl)) (z0j (z4a PassesOwn.never rfl (z0D (z1M (z0h G_beaten_by (hr.mono (by decide)) rfl (z0a (z0g 0 (pv 0)) (z0a (z0g 5 (pv 5)) z0c))))) (z0l (i:=6) sc_steps_from.nd rfl (Or.inl rfl)) (z0j (z7L (pt_dnin hr.units (z0g 6 (pv 6)) (z0g 2 (pv 2))) (z0f (x3D hr.units (pv 2) (z0g 6 (pv 6)) (z0g 5 (pv 5)))
   (z0j (s_m0 PySem.F.slot_list_append PySem.F.type_list_append z4S z7b (pv 4) (z0a (z0g 6 (pv 6)) z0c)))) z1h))))))
   (z0j (s_mov (by decide) (z0H (i:=3) sc_steps_from.nd rfl (Or.inl rfl) (pv 4)))))))
   (z0j (z4u (pv 2))))))
theorem y5u:FnScope y8y y0E (z0e z7x):=z0G
theorem y4K(B:FnB K mg "reached" z7x y0E)(T:Txt mg)(G_steps_from:DefOk P w K mg base 3 "steps_from" (spN K z2x)):DefOk P w K mg base 4 "reached" (spN K z3U):=
 B.on fun F hm hb=>z2q (k:=3) (g:=z6E) F hm hb y5u rfl rfl fun cdv A outer s H E hr=>
  (z0j (z1X (z5f (y5e rfl rfl T.b_sorted (z1M (z0h G_steps_from (hr.mono (by decide)) rfl (z0a (z0g 0 (pv 0)) (z0a (z0g 1 (pv 1)) z0c))))))))
theorem z8a:FnScope z9j z5g (z0e z3m):=z0G
theorem z7W(B:FnB K mg "places_with" z3m z5g)(T:Txt mg):DefOk P w K mg base 1 "places_with" (spN K z1x):=
 B.on fun F hm hb=>z2q (k:=0) (g:=z3d) F hm hb z8a rfl rfl fun cdv A outer s H E hr=>
  (z0j (z1X (z5f (y3n (N':=["counts", "wanted", "place", "count"])  rfl ⟨rfl,rfl,rfl,rfl,rfl⟩ (n:=2) rfl (z9C rfl T.b_enumerate (z0g 0 (pv 0))) (fun _ _ _ _ _=>x3j rfl (z0l (i:=2) nd12 rfl (Or.inl rfl)) (z0l (i:=3) nd12 rfl (Or.inl rfl))) (fun _ _ _ _ _=>z1t (z6O hr.units (z0g 3 (pv 3)) (z0g 1 (pv 1)))) (fun _ _ _ _ _=>(z0g 2 (pv 2)))))))
theorem sc_rings:FnScope N_rings x0a (z0e y2l):=z0G
theorem x1z(B:FnB K mg "rings" y2l x0a)(T:Txt mg)(G_reached:DefOk P w K mg base 4 "reached" (spN K z3U))(G_places_with:DefOk P w K mg base 1 "places_with" (spN K z1x)):DefOk P w K mg base 5 "rings" (spN K z7t):=
 B.on fun F hm hb=>z2q (k:=4) (g:=y2i) F hm hb sc_rings rfl rfl fun cdv A outer s H E hr=>
  (z0f (z0W (z0H (i:=1) sc_rings.nd rfl (Or.inr rfl) (z5f (z1u (N':=["table", "counts", "one"])  rfl ⟨rfl,rfl,rfl,rfl,rfl⟩ (n:=2) rfl (z1o rfl T.b_range (z0B rfl T.b_len (z0g 0 (pv 0)))) (fun _ _ _ _ _=>z0l (i:=2) nd14 rfl (Or.inl rfl)) (fun _ _ _ _ _=>z0y) (fun _ _ _ _ _=>(z0B rfl T.b_len (z1M (z0h G_reached (hr.mono (by decide)) rfl (z0a (z0g 0 (pv 0)) (z0a (z0g 2 (pv 2)) z0c))))))))))
   (z0j (z1X (z2H (N':=["table", "counts", "count"])  rfl ⟨rfl,rfl,rfl,rfl,rfl⟩ (n:=2) rfl (pi_rngN rfl T.b_range (z0B rfl T.b_len (z0g 0 (pv 0))) z0k (y3z z0k)) (fun _ _ _ _ _=>z0l (i:=2) nd13 rfl (Or.inl rfl)) (fun _ _ _ _ _=>z1t (x1D hr.units (z0g 2 (pv 2)) (z0g 1 (pv 1)))) (fun _ _ _ _ _=>(z0h G_places_with (hr.mono (by decide)) rfl (z0a (z0g 1 (pv 1)) (z0a (z0g 2 (pv 2)) z0c))))))))
theorem sc_sees_as_one:FnScope z9r z5n (z0e z3p):=z0G
theorem z7P(B:FnB K mg "sees_as_one" z3p z5n)(T:Txt mg):DefOk P w K mg base 1 "sees_as_one" (spN K z2b):=
 B.on fun F hm hb=>z2q (k:=0) (g:=z2W) F hm hb sc_sees_as_one rfl rfl fun cdv A outer s H E hr=>
  (z0f (z0W (PAsg.imp (pas_cF (i:=3) (N':=["table", "other", "things", "marks", "thing"]) sc_sees_as_one.nd rfl rfl rfl ⟨rfl,rfl,rfl,rfl,rfl⟩ (n:=4) rfl (z0D (z0g 2 (pv 2))) (fun _ _ _ _ _=>z0l (i:=4) nd15 rfl (Or.inl rfl)) (fun _ _ _ _ _=>z0y) (fun _ _ _ _ _=>(z0K (z0K (z0g 0 (pv 0)) (z0g 1 (pv 1))) (z0g 4 (pv 4))))) iNF))
   (z0j (z0I (pd_or (y3h rfl rfl T.b_all (z0g 3 (pv 3))) (y0b (y9T (x3B rfl rfl T.b_any (z0g 3 (pv 3)))))))))
theorem y4T:FnScope y6O y0v (z0e z7g):=z0G
theorem y5c(B:FnB K mg "parting" z7g y0v)(T:Txt mg)(G_sees_as_one:DefOk P w K mg base 1 "sees_as_one" (spN K z2b)):DefOk P w K mg base 2 "parting" (spN K z1L):=
 B.on fun F hm hb=>z2q (k:=1) (g:=z7c) F hm hb y4T rfl rfl fun cdv A outer s H E hr=>
  (z0j (z1X (z5f (z1u (N':=["table", "things", "other"])  rfl ⟨rfl,rfl,rfl,rfl,rfl⟩ (n:=2) rfl (z1o rfl T.b_range (z0B rfl T.b_len (z0g 0 (pv 0)))) (fun _ _ _ _ _=>z0l (i:=2) nd16 rfl (Or.inl rfl)) (fun _ _ _ _ _=>z1t (PW.pt (pw_andD (x0b hr.units (z0g 2 (pv 2)) (z0g 1 (pv 1))) (x2a (z3A (z0S (z1M (z0h G_sees_as_one (hr.mono (by decide)) rfl (z0a (z0g 0 (pv 0)) (z0a (z0g 2 (pv 2)) (z0a (z0g 1 (pv 1)) z0c))))))))))) (fun _ _ _ _ _=>(z0g 2 (pv 2)))))))
theorem z5i:FnScope z5M z2R (z0e z1F):=z0G
theorem z5d(B:FnB K mg "stands_together" z1F z2R)(T:Txt mg)(G_parting:DefOk P w K mg base 2 "parting" (spN K z1L)):DefOk P w K mg base 3 "stands_together" (spN K z0R):=
 B.on fun F hm hb=>z2q (k:=2) (g:=z1E) F hm hb z5i rfl rfl fun cdv A outer s H E hr=>
  (z0j (z0I (y7O hr.units (z0B rfl T.b_len (z1M (z0h G_parting (hr.mono (by decide)) rfl (z0a (z0g 0 (pv 0)) (z0a (z0g 1 (pv 1)) z0c))))) z0k)))
theorem sc_closure:FnScope y9m y0t (z0e z7G):=z0G
theorem y5y(B:FnB K mg "closure" z7G y0t)(T:Txt mg)(G_parting:DefOk P w K mg base 2 "parting" (spN K z1L)):DefOk P w K mg base 3 "closure" (spN K z4U):=
 B.on fun F hm hb=>z2q (k:=2) (g:=z7h) F hm hb sc_closure rfl rfl fun cdv A outer s H E hr=>
  (z0f (z0W (z0H (i:=2) sc_closure.nd rfl (Or.inl rfl) (z5f (y5a rfl rfl T.b_sorted rfl T.b_set (z0g 1 (pv 1))))))
   (z0f (z0W (z0H (i:=3) sc_closure.nd rfl (Or.inl rfl) (z0h G_parting (hr.mono (by decide)) rfl (z0a (z0g 0 (pv 0)) (z0a (z0g 2 (pv 2)) z0c)))))
   (z0f (y2o 100 PassesOwn.never (z0S (z0g 3 (pv 3))) (z0f (z0W (z0H (i:=2) sc_closure.nd rfl (Or.inl rfl) (z5f (y6c rfl T.b_sorted (y2n (y9x (z0g 2 (pv 2)) (z0g 3 (pv 3))))))))
   (z0j (z0W (z0H (i:=3) sc_closure.nd rfl (Or.inl rfl) (z0h G_parting (hr.mono (by decide)) rfl (z0a (z0g 0 (pv 0)) (z0a (z0g 2 (pv 2)) z0c))))))))
   (z0j (z4u (pv 2))))))
theorem z6P:FnScope z7M z4t (z0e z2P):=z0G
theorem z6W(B:FnB K mg "leads_to_all" z2P z4t)(T:Txt mg)(G_closure:DefOk P w K mg base 3 "closure" (spN K z4U)):DefOk P w K mg base 4 "leads_to_all" (spN K z1k):=
 B.on fun F hm hb=>z2q (k:=3) (g:=z2O) F hm hb z6P rfl rfl fun cdv A outer s H E hr=>
  (z0j (z0I (y7O hr.units (z0B rfl T.b_len (z1M (z0h G_closure (hr.mono (by decide)) rfl (z0a (z0g 0 (pv 0)) (z0a (y2n (z0Y (z0a (z0g 1 (pv 1)) (z0a (z0g 2 (pv 2)) z0c)))) z0c))))) (z0B rfl T.b_len (z0g 0 (pv 0))))))
theorem z6c:FnScope z7I z3G (z0e z2p):=z0G
theorem z6i(B:FnB K mg "greatest_with" z2p z3G)(T:Txt mg)(G_leads_to_all:DefOk P w K mg base 4 "leads_to_all" (spN K z1k)):DefOk P w K mg base 5 "greatest_with" (spN K z1y):=
 B.on fun F hm hb=>z2q (k:=4) (g:=z2k) F hm hb z6c rfl rfl fun cdv A outer s H E hr=>
  (z0j (z1X (z5f (z1u (N':=["table", "thing", "other"])  rfl ⟨rfl,rfl,rfl,rfl,rfl⟩ (n:=2) rfl (z1o rfl T.b_range (z0B rfl T.b_len (z0g 0 (pv 0)))) (fun _ _ _ _ _=>z0l (i:=2) nd17 rfl (Or.inl rfl)) (fun _ _ _ _ _=>z1t (PW.pt (z6R (z6O hr.units (z0g 2 (pv 2)) (z0g 1 (pv 1))) (z5u (z3A (z0S (z1M (z0h G_leads_to_all (hr.mono (by decide)) rfl (z0a (z0g 0 (pv 0)) (z0a (z0g 1 (pv 1)) (z0a (z0g 2 (pv 2)) z0c))))))))))) (fun _ _ _ _ _=>(z0g 2 (pv 2)))))))
theorem sc_parts:FnScope N_parts y8A (z0e y2B):=z0G
theorem x1q(B:FnB K mg "parts" y2B y8A)(T:Txt mg)(G_rings:DefOk P w K mg base 5 "rings" (spN K z7t))(G_greatest_with:DefOk P w K mg base 5 "greatest_with" (spN K z1y)):DefOk P w K mg base 6 "parts" (spN K z5A):=
 B.on fun F hm hb=>z2q (k:=5) (g:=z9s) F hm hb sc_parts rfl rfl fun cdv A outer s H E hr=>
  (z0f (z0W (z0H (i:=1) sc_parts.nd rfl (Or.inl rfl) (z0h G_rings (hr.mono (by decide)) rfl (z0a (z0g 0 (pv 0)) z0c))))
   (z0f (z7L (pt_gt (z0B rfl T.b_len (z0g 1 (pv 1))) z0k) (z0j (z4u (pv 1))) z1h)
   (z0f (z0W (z0H (i:=2) sc_parts.nd rfl (Or.inl rfl) (z5f (z0Y z0c))))
   (z0f (z4a PassesOwn.never rfl (z1o rfl T.b_range (z0B rfl T.b_len (z0g 0 (pv 0)))) (z0l (i:=3) sc_parts.nd rfl (Or.inl rfl)) (z0f (z0W (z0H (i:=4) sc_parts.nd rfl (Or.inl rfl) (z0h G_greatest_with (hr.mono (by decide)) rfl (z0a (z0g 0 (pv 0)) (z0a (z0g 3 (pv 3)) z0c)))))
   (z0j (z7L (x0b hr.units (z0g 4 (pv 4)) (z0g 2 (pv 2))) (z0j (s_appO (by decide) (pv 2) (pv 4))) z1h))))
   (z0j (z4u (pv 2)))))))
theorem y1U:FnScope y4X z8d (z0e z5J):=z0G
theorem y2t(B:FnB K mg "is_thing" z5J z8d)(T:Txt mg):DefOk P w K mg base 1 "is_thing" (spN K z4j):=
 B.on fun F hm hb=>z2q (k:=0) (g:=z5G) F hm hb y1U rfl rfl fun cdv A outer s H E hr=>
  (z0j (z0I (y1f (y4b rfl T.b_int rfl T.b_isinstance (z0g 0 (pv 0))) (y1f (y9T (y1b rfl T.b_bool rfl T.b_isinstance (z0g 0 (pv 0)))) (y0b (x1r op_le op_lt z4X z4X z0k (z0g 0 (pv 0)) (z0g 1 (pv 1))))))))
theorem sc_tells_each_once:FnScope z5y z2T (z0e z1G):=z0G
theorem z4Y(B:FnB K mg "tells_each_once" z1G z2T)(T:Txt mg)(G_is_thing:DefOk P w K mg base 1 "is_thing" (spN K z4j)):DefOk P w K mg base 2 "tells_each_once" (spN K z1g):=
 B.on fun F hm hb=>z2q (k:=1) (g:=z1H) F hm hb sc_tells_each_once rfl rfl fun cdv A outer s H E hr=>
  (z0f (z7L (x0H hr.units (z0B rfl T.b_len (z0g 0 (pv 0))) (z0g 1 (pv 1))) (z0j (z0I z7O)) z1h)
   (z0f (z0W (z0H (i:=2) sc_tells_each_once.nd rfl (Or.inl rfl) pn_dnew))
   (z0f (z4a PassesOwn.never rfl (z0D (z0g 0 (pv 0))) (z0l (i:=3) sc_tells_each_once.nd rfl (Or.inl rfl)) (z0f (z7L (PW.pt (z6R (z3A (z0S (z1M (z0h G_is_thing (hr.mono (by decide)) rfl (z0a (z0g 3 (pv 3)) (z0a (z0g 1 (pv 1)) z0c)))))) (z5u (pt_din hr.units (z0g 3 (pv 3)) (z0g 2 (pv 2)))))) (z0j (z0I z7O)) z1h)
   (z0j (x3D hr.units (pv 2) (z0g 3 (pv 3)) z7O))))
   (z0j (z0I z7O)))))
theorem sc_places_of:FnScope y1Z z4y (z0e z4C):=z0G
theorem y1k(B:FnB K mg "places_of" z4C z4y)(T:Txt mg)(Z:Cls K mg base cl)(G_tells_each_once:DefOk P w K mg base 2 "tells_each_once" (spN K z1g)):DefX P w K mg base 3 "places_of" (spX K cl z2j):=by
 obtain⟨C_BadParts,hc_BadParts,O_BadParts,nn_BadParts,xb_BadParts⟩:=Z.o_BadParts
 exact B.on fun F hm hb=>⟨_,_,z4y,hm,F.kp,hb,fnX (k:=2) (g:=z3e) F sc_places_of rfl rfl fun cdv A outer s H E hr=>
  (z0f (z0W (z0H (i:=2) sc_places_of.nd rfl (Or.inl rfl) (z5f (z0Y z0c))))
   (z0f (z4a PassesOwn.leaving rfl (z0D (z0g 0 (pv 0))) (z0l (i:=3) sc_places_of.nd rfl (Or.inl rfl)) (z0f (z7L (z6O hr.units (z0B rfl T.b_len (z0g 3 (pv 3))) z0k) (z0j (z9x (c:=1) rfl rfl O_BadParts (z8P hc_BadParts) y7N)) z1h)
   (z0j (y9Q (pv 2) (z0g 3 (pv 3))))))
   (z0f (z7L (z3A (z0S (z1M (z0h G_tells_each_once (hr.mono (by decide)) rfl (z0a (z0g 2 (pv 2)) (z0a (z0g 1 (pv 1)) z0c)))))) (z0j (z9x (c:=1) rfl rfl O_BadParts (z8P hc_BadParts) y7N)) z1h)
   (z0f (z0W (z0H (i:=4) sc_places_of.nd rfl (Or.inl rfl) (z5f (y6W (y2n (z0Y (z0a z0k z0c))) (z0g 1 (pv 1))))))
   (z0f (x3k PassesOwn.leaving rfl (z9C rfl T.b_enumerate (z0g 0 (pv 0))) (y5L rfl (z0l (i:=5) sc_places_of.nd rfl (Or.inl rfl)) (z0l (i:=3) sc_places_of.nd rfl (Or.inl rfl))) (z0j (z4a PassesOwn.leaving rfl (z0D (z0g 3 (pv 3))) (z0l (i:=6) sc_places_of.nd rfl (Or.inl rfl)) (z0j (s_st0 (pv 4) (z0g 6 (pv 6)) (z0g 5 (pv 5)))))))
   (z0j (z4u (pv 4))))))))⟩
theorem y7t:FnScope x1y z8G (z0e z9f):=z0G
theorem y7Q(B:FnB K mg "folded" z9f z8G)(T:Txt mg)(Z:Cls K mg base cl)(G_part:DefOk P w K mg base 2 "part" (spN K z5Q))(G_stands_together:DefOk P w K mg base 3 "stands_together" (spN K z0R))(G_places_of:DefX P w K mg base 3 "places_of" (spX K cl z2j)):DefX P w K mg base 4 "folded" (spX K cl z6s):=by
 obtain⟨C_BadParts,hc_BadParts,O_BadParts,nn_BadParts,xb_BadParts⟩:=Z.o_BadParts
 exact B.on fun F hm hb=>⟨_,_,z8G,hm,F.kp,hb,fnX (k:=3) (g:=z8Z) F y7t rfl rfl fun cdv A outer s H E hr=>
  (z0f (s_exprX (y6S G_places_of (hr.mono (by decide)) rfl xw_def (z0a (z0g 1 (pv 1)) (z0a (z0B rfl T.b_len (z0g 0 (pv 0))) z0c))))
   (z0f (z7L (z3A (z0S (y3h rfl rfl T.b_all (z1M (z2H (N':=["table", "pieces", "piece"])  rfl ⟨rfl,rfl,rfl,rfl,rfl⟩ (n:=2) rfl (z0D (z0g 1 (pv 1))) (fun _ _ _ _ _=>z0l (i:=2) nd18 rfl (Or.inl rfl)) (fun _ _ _ _ _=>z0y) (fun _ _ _ _ _=>(z0h G_stands_together (hr.mono (by decide)) rfl (z0a (z0g 0 (pv 0)) (z0a (z0g 2 (pv 2)) z0c))))))))) (z0j (z9x (c:=1) rfl rfl O_BadParts (z8P hc_BadParts) y7N)) z1h)
   (z0j (z1X (z0h G_part (hr.mono (by decide)) rfl (z0a (z0g 0 (pv 0)) (z0a (y2n (z1u (N':=["table", "pieces", "piece"])  rfl ⟨rfl,rfl,rfl,rfl,rfl⟩ (n:=2) rfl (z0D (z0g 1 (pv 1))) (fun _ _ _ _ _=>z0l (i:=2) nd18 rfl (Or.inl rfl)) (fun _ _ _ _ _=>z0y) (fun _ _ _ _ _=>(z0K (z0g 2 (pv 2)) z0k)))) z0c)))))))⟩
theorem z8R:FnScope y0R z5R (z0e z3I):=z0G
theorem z9d(B:FnB K mg "_law_whole" z3I z5R)(T:Txt mg):DefOk P w K mg base 1 "_law_whole" (spN K z2t):=
 B.on fun F hm hb=>z2q (k:=0) (g:=z4b) F hm hb z8R rfl rfl fun cdv A outer s H E hr=>
  (z0j (z0I (y1f (y4b rfl T.b_int rfl T.b_isinstance (z0g 0 (pv 0))) (y0b (y9T (y1b rfl T.b_bool rfl T.b_isinstance (z0g 0 (pv 0))))))))
theorem z6U:FnScope z7Q z4o (z0e z2N):=z0G
theorem z6T(B:FnB K mg "_law_cell_at" z2N z4o)(T:Txt mg):DefOk P w K mg base 1 "_law_cell_at" (spN K z0p):=
 B.on fun F hm hb=>z2q (k:=0) (g:=z1I) F hm hb z6U rfl rfl fun cdv A outer s H E hr=>
  (z0f (z7L (x1G (z0g 1 (pv 1)) (z0B rfl T.b_len (z0g 0 (pv 0)))) (z0j (z0I (z0K (z0g 0 (pv 0)) (z0g 1 (pv 1))))) z1h)
   (z0j (z0I z0k)))
theorem sc__law_table_by:FnScope z7u z3D (z0e z2n):=z0G
theorem z6k(B:FnB K mg "_law_table_by" z2n z3D)(T:Txt mg):DefOk P w K mg base 1 "_law_table_by" (spN K z1b):=
 B.on fun F hm hb=>z2q (k:=0) (g:=z2l) F hm hb sc__law_table_by rfl rfl fun cdv A outer s H E hr=>
  (z0f (z0W (pas_cN (i:=2) (N':=["cell", "many", "rows", "rest", "one", "other", "k"]) sc__law_table_by.nd rfl rfl rfl ⟨rfl,rfl,rfl,rfl,rfl⟩ (n:=6) rfl (z1o rfl T.b_range (z0g 1 (pv 1))) (fun _ _ _ _ _=>z0l (i:=6) nd19 rfl (Or.inl rfl)) (fun _ _ _ _ _=>z0y) (fun _ _ _ _ _=>(z5f (y6W (y2n (z0Y (z0a z7O z0c))) (z0g 1 (pv 1)))))))
   (z0f (z1C (z0H (i:=3) sc__law_table_by.nd rfl (Or.inl rfl) (z3Q (pd_mul (z0g 0 (pv 0)) z0k) z0k)))
   (z0f (z4a PassesOwn.never rfl (z1o rfl T.b_range (z0g 1 (pv 1))) (z0l (i:=4) sc__law_table_by.nd rfl (Or.inl rfl)) (z0j (z4a PassesOwn.never rfl (y9B rfl T.b_range (z5m (z0g 4 (pv 4)) z0k) (z0g 1 (pv 1))) (z0l (i:=5) sc__law_table_by.nd rfl (Or.inl rfl)) (z0f (s_st1 (pv 2) (z0g 4 (pv 4)) (z0g 5 (pv 5)) (y7O hr.units (z3Q (z0g 3 (pv 3)) z0k) z0k))
   (z0f (s_st1 (pv 2) (z0g 5 (pv 5)) (z0g 4 (pv 4)) (y7O hr.units (z3Q (z0g 3 (pv 3)) z0k) z0k))
   (z0j (z1C (z0H (i:=3) sc__law_table_by.nd rfl (Or.inl rfl) (y3X (z0g 3 (pv 3)) z0k)))))))))
   (z0j (z4u (pv 2))))))
theorem sc__law_mixed:FnScope y0r z5T (z0e z3H):=z0G
theorem z9o(B:FnB K mg "_law_mixed" z3H z5T)(T:Txt mg)(G__law_cell_at:DefOk P w K mg base 1 "_law_cell_at" (spN K z0p))(G__law_table_by:DefOk P w K mg base 1 "_law_table_by" (spN K z1b)):DefOk P w K mg base 2 "_law_mixed" (spN K z1N):=
 B.on fun F hm hb=>z2q (k:=1) (g:=z3R) F hm hb sc__law_mixed rfl rfl fun cdv A outer s H E hr=>
  (z0f (z1C (z0H (i:=1) sc__law_mixed.nd rfl (Or.inl rfl) (z5m z0k (z3Q (z1M (z0h G__law_cell_at (hr.mono (by decide)) rfl (z0a (z0g 0 (pv 0)) (z0a z0k z0c)))) z0k))))
   (z0f (z7L (z6O hr.units (z3Q (y3X (z1M (z0h G__law_cell_at (hr.mono (by decide)) rfl (z0a (z0g 0 (pv 0)) (z0a z0k z0c)))) z0k) z0k) z0k) (z0j (z1C (z0H (i:=1) sc__law_mixed.nd rfl (Or.inl rfl) (z5m (z0g 1 (pv 1)) z0k)))) z1h)
   (z0f (z0W (z0H (i:=2) sc__law_mixed.nd rfl (Or.inl rfl) (z0h G__law_table_by (hr.mono (by decide)) rfl (z0a (z1M (z0h G__law_cell_at (hr.mono (by decide)) rfl (z0a (z0g 0 (pv 0)) (z0a z0k z0c)))) (z0a (z0g 1 (pv 1)) z0c)))))
   (z0f (z0W (z0H (i:=3) sc__law_mixed.nd rfl (Or.inl rfl) (z5f (z0Y z0c))))
   (z0f (z0W (z0H (i:=4) sc__law_mixed.nd rfl (Or.inl rfl) (z5f (z0Y z0c))))
   (z0f (x3I PassesOwn.never rfl (y3L rfl T.b_range (z0B rfl T.b_len (z0g 2 (pv 2)))) (z0l (i:=5) sc__law_mixed.nd rfl (Or.inl rfl)) (z0f (z0W (z0H (i:=6) sc__law_mixed.nd rfl (Or.inl rfl) (z0h G__law_cell_at (hr.mono (by decide)) rfl (z0a (z0g 0 (pv 0)) (z0a (z5m z0k (z0g 5 (pv 5))) z0c)))))
   (z0f (z1C (z0H (i:=7) sc__law_mixed.nd rfl (Or.inl rfl) (z5m (y3R (y3R z0k (z0B rfl T.b_len (z0g 4 (pv 4)))) (z0B rfl T.b_len (z0g 2 (pv 2)))) (z0g 5 (pv 5)))))
   (z0f (z1C (z0H (i:=8) sc__law_mixed.nd rfl (Or.inl rfl) (z0K (y2n (z0Y (z0a z0k (z0a (y7l rfl rfl T.b_min z0k (z0g 7 (pv 7))) (z0a (z5m z0k (z3Q (y3X (z0g 6 (pv 6)) z0k) (z0g 7 (pv 7)))) z0c))))) (y7l rfl rfl T.b_min (z3Q (z0g 6 (pv 6)) z0k) z0k))))
   (z0f (z7E (pv 3) (z0h G__law_table_by (hr.mono (by decide)) rfl (z0a (y3X (z0g 6 (pv 6)) z0k) (z0a (z0g 8 (pv 8)) z0c))))
   (z0j (z4a PassesOwn.never rfl (z1o rfl T.b_range (z0g 8 (pv 8))) (z0l (i:=9) sc__law_mixed.nd rfl (Or.inl rfl)) (z0f (z1C (z0H (i:=10) sc__law_mixed.nd rfl (Or.inl rfl) (z3Q (z1M (z0h G__law_cell_at (hr.mono (by decide)) rfl (z0a (z0g 0 (pv 0)) (z0a (z5m z0k (z0B rfl T.b_len (z0g 4 (pv 4)))) z0c)))) (z5m (z0B rfl T.b_len (z0g 4 (pv 4))) z0k))))
   (z0j (s_m0 PySem.F.slot_list_insert PySem.F.type_list_insert y8I y5M (pv 4) (z0a (z0g 10 (pv 10)) (z0a (pd_tup (z0a (z0g 5 (pv 5)) (z0a (z0g 9 (pv 9)) z0c))) z0c))))))))))))
   (z0j (s_ret3 (by decide) (by decide) (by decide) (pv 2) (pv 3) (pv 4)))))))))
theorem z9D:FnScope y0j z5Z (z0e z3W):=z0G
theorem z9k(B:FnB K mg "_law_beats" z3W z5Z)(T:Txt mg):DefOk P w K mg base 1 "_law_beats" (spN K z2E):=
 B.on fun F hm hb=>z2q (k:=0) (g:=z2C) F hm hb z9D rfl rfl fun cdv A outer s H E hr=>
  (z0f (z7L (z6O hr.units (z0K (z0g 1 (pv 1)) z0k) (z0K (z0g 2 (pv 2)) z0k)) (z0j (z0I (z0K (z0K (z0K (z0K (z0g 0 (pv 0)) z0k) (z0K (z0g 1 (pv 1)) z0k)) (z0K (z0g 1 (pv 1)) z0k)) (z0K (z0g 2 (pv 2)) z0k)))) z1h)
   (z0j (z0I (z0K (z0K (z0K (z0g 0 (pv 0)) z0k) (z0K (z0g 1 (pv 1)) z0k)) (z0K (z0g 2 (pv 2)) z0k)))))
theorem sc__law_table:FnScope y0f z5O (z0e z3S):=z0G
theorem z9b(B:FnB K mg "_law_table" z3S z5O)(T:Txt mg)(G__law_beats:DefOk P w K mg base 1 "_law_beats" (spN K z2E)):DefOk P w K mg base 2 "_law_table" (spN K z2y):=
 B.on fun F hm hb=>z2q (k:=1) (g:=z3J) F hm hb sc__law_table rfl rfl fun cdv A outer s H E hr=>
  (z0f (z0W (z0H (i:=1) sc__law_table.nd rfl (Or.inl rfl) (z5f (z0Y z0c))))
   (z0f (z4a PassesOwn.never rfl (z0D (z0K (z0g 0 (pv 0)) z0k)) (z0l (i:=2) sc__law_table.nd rfl (Or.inr rfl)) (z0j (z7E (pv 1) (z2H (N':=["mixed", "rows", "one", "other"])  rfl ⟨rfl,rfl,rfl,rfl,rfl⟩ (n:=3) rfl (z0D (z0K (z0g 0 (pv 0)) z0k)) (fun _ _ _ _ _=>z0l (i:=3) nd20 rfl (Or.inl rfl)) (fun _ _ _ _ _=>z0y) (fun _ _ _ _ _=>(z0h G__law_beats (hr.mono (by decide)) rfl (z0a (z0g 0 (pv 0)) (z0a (z0g 2 (pv 2)) (z0a (z0g 3 (pv 3)) z0c)))))))))
   (z0j (z4u (pv 1)))))
theorem sc__law_pieces:FnScope z9T z5c (z0e z3r):=z0G
theorem z7Z(B:FnB K mg "_law_pieces" z3r z5c)(T:Txt mg):DefOk P w K mg base 1 "_law_pieces" (spN K z1Z):=
 B.on fun F hm hb=>z2q (k:=0) (g:=z3c) F hm hb sc__law_pieces rfl rfl fun cdv A outer s H E hr=>
  (z0f (z0W (z0H (i:=1) sc__law_pieces.nd rfl (Or.inl rfl) (z5f (z0Y z0c))))
   (z0f (x3I PassesOwn.never rfl (y3L rfl T.b_range (z0B rfl T.b_len (z0K (z0g 0 (pv 0)) z0k))) (z0l (i:=2) sc__law_pieces.nd rfl (Or.inr rfl)) (z0j (z7E (pv 1) (z5f (z1u (N':=["mixed", "pieces", "k", "thing"])  rfl ⟨rfl,rfl,rfl,rfl,rfl⟩ (n:=3) rfl (z1o rfl T.b_range (z0B rfl T.b_len (z0K (z0g 0 (pv 0)) z0k))) (fun _ _ _ _ _=>z0l (i:=3) nd21 rfl (Or.inl rfl)) (fun _ _ _ _ _=>z1t (z6O hr.units (z0K (z0K (z0K (z0g 0 (pv 0)) z0k) (z0g 3 (pv 3))) z0k) (z0g 2 (pv 2)))) (fun _ _ _ _ _=>(z0g 3 (pv 3))))))))
   (z0j (z4u (pv 1)))))
theorem y0x:FnScope y2k z7s (z0e z4D):=z0G
theorem y1d(B:FnB K mg "_law_part" z4D z7s)(T:Txt mg):DefOk P w K mg base 1 "_law_part" (spN K z2Y):=
 B.on fun F hm hb=>z2q (k:=0) (g:=z4Q) F hm hb y0x rfl rfl fun cdv A outer s H E hr=>
  (z0j (z1X (z2H (N':=["table", "things", "one"])  rfl ⟨rfl,rfl,rfl,rfl,rfl⟩ (n:=2) rfl (z0D (z0g 1 (pv 1))) (fun _ _ _ _ _=>z0l (i:=2) nd1 rfl (Or.inr rfl)) (fun _ _ _ _ _=>z0y) (fun _ _ _ _ _=>(z5f (z1u (N':=["table", "things", "one", "other"])  rfl ⟨rfl,rfl,rfl,rfl,rfl⟩ (n:=3) rfl (z0D (z0g 1 (pv 1))) (fun _ _ _ _ _=>z0l (i:=3) nd22 rfl (Or.inl rfl)) (fun _ _ _ _ _=>z0y) (fun _ _ _ _ _=>(z0K (z0K (z0g 0 (pv 0)) (z0g 2 (pv 2))) (z0g 3 (pv 3))))))))))
theorem sc__law_weights:FnScope z7U z4w (z0e z2M):=z0G
theorem z7d(B:FnB K mg "_law_weights" z2M z4w)(T:Txt mg)(G_weighing:DefOk P w K mg base 19 "weighing" (spN K z4f))(G__law_whole:DefOk P w K mg base 1 "_law_whole" (spN K z2t)):DefOk P w K mg base 20 "_law_weights" (spR K z0J):=
 B.on fun F hm hb=>defR (k:=19) (g:=z2K) F hm hb sc__law_weights rfl rfl fun cdv A outer s H E B hr=>
  (z0f (z5a (z0H (i:=1) sc__law_weights.nd rfl (Or.inl rfl) (z1M (z0h G_weighing (hr.mono (by decide)) rfl (z0a (z0g 0 (pv 0)) z0c)))))
   (z0f (z7L (PW.pt (z6R (z3A (z0S (y9Y rfl T.b_list rfl T.b_isinstance (z0g 1 (pv 1))))) (z5u (x0H hr.units (z0B rfl T.b_len (z0g 1 (pv 1))) (z0B rfl T.b_len (z0g 0 (pv 0))))))) (z0j (y0s y5O)) z1h)
   (z0f (z4a PassesOwn.never rfl (z0D (z0g 1 (pv 1))) (z0l (i:=2) sc__law_weights.nd rfl (Or.inl rfl)) (z0j (z7L (PW.pt (z6R (z3A (z0S (z1M (z0h G__law_whole (hr.mono (by decide)) rfl (z0a (z0g 2 (pv 2)) z0c))))) (z5u (x1G (z0g 2 (pv 2)) z0k)))) (z0j (y0s y5O)) z1h)))
   (z0f (z7L (z6O hr.units (y0p rfl rfl T.b_sum (z0g 1 (pv 1))) z0k) (z0j (y0s y5O)) z1h)
   (z0j (y0s (z0g 1 (pv 1))))))))
theorem sc__law_right:FnScope y0Q z5U (z0e z3O):=z0G
theorem z8K(B:FnB K mg "_law_right" z3O z5U)(T:Txt mg)(Z:Cls K mg base cl)(G_folded:DefX P w K mg base 4 "folded" (spX K cl z6s))(G__law_part:DefOk P w K mg base 1 "_law_part" (spN K z2Y))(G__law_weights:DefOk P w K mg base 20 "_law_weights" (spR K z0J)):DefOk P w K mg base 21 "_law_right" (spN K z1J):=
 B.on fun F hm hb=>z2q (k:=20) (g:=z3B) F hm hb sc__law_right rfl rfl fun cdv A outer s H E hr=>
  (z0f (z5a (z0H (i:=2) sc__law_right.nd rfl (Or.inl rfl) (z6r G__law_weights (hr.mono (by decide)) rfl (z0a (z0g 0 (pv 0)) z0c))))
   (z0f (z5a (z0H (i:=3) sc__law_right.nd rfl (Or.inl rfl) (z6r G__law_weights (hr.mono (by decide)) rfl (z0a (z1M (x1Y G_folded (hr.mono (by decide)) rfl (z0a (z0g 0 (pv 0)) (z0a (z1M (z2H (N':=["table", "pieces", "weights", "outer", "k", "inner", "at", "weight", "due", "piece"])  rfl ⟨rfl,rfl,rfl,rfl,rfl⟩ (n:=9) rfl (z0D (z0g 1 (pv 1))) (fun _ _ _ _ _=>z0l (i:=9) nd23 rfl (Or.inl rfl)) (fun _ _ _ _ _=>z0y) (fun _ _ _ _ _=>(z5f (y0i rfl T.b_list (z0g 9 (pv 9))))))) z0c)))) z0c))))
   (z0f (z7L (PW.pt (z6R (z6G (z0g 2 (pv 2))) (z6R (z6G (z0g 3 (pv 3))) (z5u (x0H hr.units (z0B rfl T.b_len (z0g 3 (pv 3))) (z0B rfl T.b_len (z0g 1 (pv 1)))))))) (z0j (z0I z7O)) z1h)
   (z0f (z4a PassesOwn.never rfl (z1o rfl T.b_range (z0B rfl T.b_len (z0g 1 (pv 1)))) (z0l (i:=4) sc__law_right.nd rfl (Or.inl rfl)) (z0f (z5a (z0H (i:=5) sc__law_right.nd rfl (Or.inl rfl) (z6r G__law_weights (hr.mono (by decide)) rfl (z0a (z1M (z0h G__law_part (hr.mono (by decide)) rfl (z0a (z0g 0 (pv 0)) (z0a (z0K (z0g 1 (pv 1)) (z0g 4 (pv 4))) z0c)))) z0c))))
   (z0f (z7L (z6G (z0g 5 (pv 5))) (z0j (z0I z7O)) z1h)
   (z0j (z4a PassesOwn.never rfl (z1o rfl T.b_range (z0B rfl T.b_len (z0g 5 (pv 5)))) (z0l (i:=6) sc__law_right.nd rfl (Or.inl rfl)) (z0f (z1C (z0H (i:=7) sc__law_right.nd rfl (Or.inl rfl) (z0K (z0g 2 (pv 2)) (z0K (z0K (z0g 1 (pv 1)) (z0g 4 (pv 4))) (z0g 6 (pv 6))))))
   (z0f (z1C (z0H (i:=8) sc__law_right.nd rfl (Or.inl rfl) (z4I (z4I (z0K (z0g 3 (pv 3)) (z0g 4 (pv 4))) (z0K (z0g 5 (pv 5)) (z0g 6 (pv 6)))) (y0p rfl rfl T.b_sum (z0g 2 (pv 2))))))
   (z0j (z7L (x0H hr.units (z4I (z4I (z0g 7 (pv 7)) (y0p rfl rfl T.b_sum (z0g 3 (pv 3)))) (y0p rfl rfl T.b_sum (z0g 5 (pv 5)))) (z0g 8 (pv 8))) (z0j (z0I z7O)) z1h)))))))))
   (z0j (z0I z7O))))))
theorem sc_law:FnScope N_law P_law (z0e z9u):=z0G
theorem ok_law{f:Addr}{fd:FuncData}(F:Fun K "law" "law" z9u f fd)(T:Txt mg)(Z:Cls K mg base cl)(G_parts:DefOk P w K mg base 6 "parts" (spN K z5A))(G__law_mixed:DefOk P w K mg base 2 "_law_mixed" (spN K z1N))(G__law_table:DefOk P w K mg base 2 "_law_table" (spN K z2y))(G__law_pieces:DefOk P w K mg base 1 "_law_pieces" (spN K z1Z))(G__law_right:DefOk P w K mg base 21 "_law_right" (spN K z1J)):FnOk P w K mg base CX0 22 f fd P_law (spN K y4S):=
 fnN (k:=21) (g:=g_law) F sc_law rfl rfl fun cdv A outer s H E hr=>
  (z0f (z5a (z0H (i:=1) sc_law.nd rfl (Or.inl rfl) (z1M (z0h G__law_mixed (hr.mono (by decide)) rfl (z0a (z0g 0 (pv 0)) z0c)))))
   (z0f (z5a (z0H (i:=2) sc_law.nd rfl (Or.inl rfl) (z1M (z0h G__law_table (hr.mono (by decide)) rfl (z0a (z0g 1 (pv 1)) z0c)))))
   (z0j (z0I (y1f (z1M (z0h G__law_right (hr.mono (by decide)) rfl (z0a (z0g 2 (pv 2)) (z0a (z1M (z0h G__law_pieces (hr.mono (by decide)) rfl (z0a (z0g 1 (pv 1)) z0c))) z0c)))) (y0b (z1M (z0h G__law_right (hr.mono (by decide)) rfl (z0a (z0g 2 (pv 2)) (z0a (z1M (z0h G_parts (hr.mono (by decide)) rfl (z0a (z1M (z2H (N':=["script", "mixed", "table", "row"])  rfl ⟨rfl,rfl,rfl,rfl,rfl⟩ (n:=3) rfl (z0D (z0g 2 (pv 2))) (fun _ _ _ _ _=>z0l (i:=3) nd24 rfl (Or.inl rfl)) (fun _ _ _ _ _=>z0y) (fun _ _ _ _ _=>(z5f (y0i rfl T.b_list (z0g 3 (pv 3))))))) z0c))) z0c))))))))))
end
theorem all_mk{l:dR}{w:World}{K:aa}{h:Heap}{mg:Str->Option Value}{fa:Addr}(X:K.In h)(G:h.Ns mainGlobals mg)(hfa:mg "law" = some (.ref fa))
  {f_law:Addr} {od0 an0:Option Addr} {sl0:Array (Option Value)} {oc0 kV0 dc0 pm0 cd0 ct0:Value} {C_BadParts:Addr}
  (h_part:FnG K "part" y5J) (h_picked:FnG K "picked" z8L) (h_column:FnG K "column" z9v) (h_beaten_by:FnG K "beaten_by" z4G) (h_beaters_of:FnG K "beaters_of" z3Y) (h_beats_all:FnG K "beats_all" z4F) (h_places_true:FnG K "places_true" z3k) (h_covers:FnG K "covers" z9i) (h_uncovered:FnG K "uncovered" z4J) (h_is_covered:FnG K "is_covered" z3Z) (h_pairing_sum:FnG K "pairing_sum" z2a) (h_sign:FnG K "sign" y7m) (h_turned_sign:FnG K "turned_sign" z2Z) (h_without:FnG K "without" z7F) (h_kernel:FnG K "kernel" z8H) (h_score:FnG K "score" y2Q) (h_weight_of:FnG K "weight_of" z4H) (h_is_even:FnG K "is_even" z7i) (h_is_even_at:FnG K "is_even_at" z3E) (h_weighing:FnG K "weighing" z5t) (h_odd_picks:FnG K "odd_picks" z4L) (h_weights_on:FnG K "weights_on" z4d) (h_common_divisor:FnG K "common_divisor" z1R) (h_divisor_of_two:FnG K "divisor_of_two" z1U) (h_reached:FnG K "reached" z7x) (h_steps_from:FnG K "steps_from" z3M) (h_rings:FnG K "rings" y2l) (h_places_with:FnG K "places_with" z3m) (h_stands_together:FnG K "stands_together" z1F) (h_parting:FnG K "parting" z7g) (h_sees_as_one:FnG K "sees_as_one" z3p) (h_closure:FnG K "closure" z7G) (h_parts:FnG K "parts" y2B) (h_greatest_with:FnG K "greatest_with" z2p) (h_leads_to_all:FnG K "leads_to_all" z2P) (h_is_thing:FnG K "is_thing" z5J) (h_tells_each_once:FnG K "tells_each_once" z1G) (h_places_of:FnG K "places_of" z4C) (h_folded:FnG K "folded" z9f) (h__law_whole:FnG K "_law_whole" z3I) (h__law_cell_at:FnG K "_law_cell_at" z2N) (h__law_table_by:FnG K "_law_table_by" z2n) (h__law_mixed:FnG K "_law_mixed" z3H) (h__law_beats:FnG K "_law_beats" z3W) (h__law_table:FnG K "_law_table" z3S) (h__law_pieces:FnG K "_law_pieces" z3r) (h__law_part:FnG K "_law_part" z4D) (h__law_weights:FnG K "_law_weights" z2M) (h__law_right:FnG K "_law_right" z3O)
  (a_law:aO K mainGlobals "law" = some (some (.ref f_law))) (l_law:K.lookup f_law=some ⟨oc0,od0,.func (bK "law" "law" (z2L z9u) (z1q z9u) (z0e z9u) .none kV0 dc0 pm0 an0 cd0 ct0),sl0⟩) (c_law:df K cd0 "law" = true) (k_law:bV K (.ref f_law)=true)
  (x_BadParts:aO K mainGlobals "BadParts" = some (some (.ref C_BadParts))) (q_BadParts:d9 K C_BadParts bmVE "ValueError.__new__" = true)
  (z_all:aO K mainGlobals "all" = some none) (z_enumerate:aO K mainGlobals "enumerate" = some none) (z_range:aO K mainGlobals "range" = some none) (z_len:aO K mainGlobals "len" = some none) (z_any:aO K mainGlobals "any" = some none) (z_sum:aO K mainGlobals "sum" = some none) (z_min:aO K mainGlobals "min" = some none) (z_max:aO K mainGlobals "max" = some none) (z_abs:aO K mainGlobals "abs" = some none) (z_zip:aO K mainGlobals "zip" = some none) (z_sorted:aO K mainGlobals "sorted" = some none) (z_set:aO K mainGlobals "set" = some none) (z_int:aO K mainGlobals "int" = some none) (z_isinstance:aO K mainGlobals "isinstance" = some none) (z_bool:aO K mainGlobals "bool" = some none) (z_list:aO K mainGlobals "list" = some none):
  ∃fd:FuncData,(∀(s:Shared) (v:Value),BindsTo s fd ⟨[v],[]⟩ [("script",v)])∧∀base:Heap,K.In base->base.Ns mainGlobals mg->FnOk l.prog w K mg base CX0 22 fa fd ["script"] (x2c K y4S):=by
 have e:=hfa.symm.trans (d8 X G a_law)
 cases e
 have T:Txt mg:=⟨aQ X G z_all,aQ X G z_enumerate,aQ X G z_range,aQ X G z_len,aQ X G z_any,aQ X G z_sum,aQ X G z_min,aQ X G z_max,aQ X G z_abs,aQ X G z_zip,aQ X G z_sorted,aQ X G z_set,aQ X G z_int,aQ X G z_isinstance,aQ X G z_bool,aQ X G z_list⟩
 have F_law:=fun_mk (st:=z9u) l_law c_law k_law
 have b_law:=F_law.binds (ps:=P_law) fun _ _ _ _ _ _ us hl=>match us,hl with | [_],_=>rfl
 refine⟨bK "law" "law" (z2L z9u) (z1q z9u) (z0e z9u) .none kV0 dc0 pm0 an0 cd0 ct0,fun s v=>.of_eq rfl,fun base KB GB=>?_⟩
 let cl:Nat->Value:=fun n=>match n with | 1=>.ref C_BadParts | _=>.none
 have Z:Cls K mg base cl:=⟨⟨C_BadParts,rfl,own_mk KB GB x_BadParts q_BadParts,x_BadParts,trivial⟩⟩
 have G_picked:=y5I (P:=l.prog) (w:=w) (base:=base) (fg2 X G h_picked) T
 have G_part:=ok_part (P:=l.prog) (w:=w) (base:=base) (fg2 X G h_part) T G_picked
 have G_column:=y8t (P:=l.prog) (w:=w) (base:=base) (fg2 X G h_column) T
 have G_beats_all:=y0U (P:=l.prog) (w:=w) (base:=base) (fg3 X G h_beats_all) T
 have G_places_true:=z7Y (P:=l.prog) (w:=w) (base:=base) (fg1 X G h_places_true) T
 have G_beaten_by:=y0W (P:=l.prog) (w:=w) (base:=base) (fg2 X G h_beaten_by) T G_places_true
 have G_beaters_of:=z8V (P:=l.prog) (w:=w) (base:=base) (fg2 X G h_beaters_of) T G_column G_places_true
 have G_covers:=y8i (P:=l.prog) (w:=w) (base:=base) (fg3 X G h_covers) T G_beats_all G_beaten_by
 have G_is_covered:=z9z (P:=l.prog) (w:=w) (base:=base) (fg2 X G h_is_covered) T G_covers
 have G_uncovered:=y1y (P:=l.prog) (w:=w) (base:=base) (fg1 X G h_uncovered) T G_is_covered
 have G_sign:=ok_sign (P:=l.prog) (w:=w) (base:=base) (fg2 X G h_sign) T
 have G_turned_sign:=z7N (P:=l.prog) (w:=w) (base:=base) (fg1 X G h_turned_sign) T
 have G_without:=y5l (P:=l.prog) (w:=w) (base:=base) (fg2 X G h_without) T G_part
 have G_pairing_sum:=z8b (P:=l.prog) (w:=w) (base:=base) (fg1 X G h_pairing_sum) T G_sign G_turned_sign G_without
 have G_kernel:=y8x (P:=l.prog) (w:=w) (base:=base) (fg1 X G h_kernel) T G_turned_sign G_without G_pairing_sum
 have G_weight_of:=y1h (P:=l.prog) (w:=w) (base:=base) (fg2 X G h_weight_of) T
 have G_score:=x1T (P:=l.prog) (w:=w) (base:=base) (fg3 X G h_score) T G_beaten_by G_beaters_of G_weight_of
 have G_is_even_at:=z8C (P:=l.prog) (w:=w) (base:=base) (fg3 X G h_is_even_at) T G_score
 have G_is_even:=y5m (P:=l.prog) (w:=w) (base:=base) (fg2 X G h_is_even) T G_is_even_at
 have G_odd_picks:=y0u (P:=l.prog) (w:=w) (base:=base) (fg1 X G h_odd_picks) T
 have G_divisor_of_two:=z5D (P:=l.prog) (w:=w) (base:=base) (fg2 X G h_divisor_of_two) T
 have G_common_divisor:=z5r (P:=l.prog) (w:=w) (base:=base) (fg1 X G h_common_divisor) T G_divisor_of_two
 have G_weights_on:=z8J (P:=l.prog) (w:=w) (base:=base) (fg2 X G h_weights_on) T G_part G_kernel G_common_divisor
 have G_weighing:=y1W (P:=l.prog) (w:=w) (base:=base) (fg1 X G h_weighing) T G_uncovered G_is_even G_odd_picks G_weights_on
 have G_steps_from:=z8W (P:=l.prog) (w:=w) (base:=base) (fg2 X G h_steps_from) T G_beaten_by
 have G_reached:=y4K (P:=l.prog) (w:=w) (base:=base) (fg2 X G h_reached) T G_steps_from
 have G_places_with:=z7W (P:=l.prog) (w:=w) (base:=base) (fg2 X G h_places_with) T
 have G_rings:=x1z (P:=l.prog) (w:=w) (base:=base) (fg1 X G h_rings) T G_reached G_places_with
 have G_sees_as_one:=z7P (P:=l.prog) (w:=w) (base:=base) (fg3 X G h_sees_as_one) T
 have G_parting:=y5c (P:=l.prog) (w:=w) (base:=base) (fg2 X G h_parting) T G_sees_as_one
 have G_stands_together:=z5d (P:=l.prog) (w:=w) (base:=base) (fg2 X G h_stands_together) T G_parting
 have G_closure:=y5y (P:=l.prog) (w:=w) (base:=base) (fg2 X G h_closure) T G_parting
 have G_leads_to_all:=z6W (P:=l.prog) (w:=w) (base:=base) (fg3 X G h_leads_to_all) T G_closure
 have G_greatest_with:=z6i (P:=l.prog) (w:=w) (base:=base) (fg2 X G h_greatest_with) T G_leads_to_all
 have G_parts:=x1q (P:=l.prog) (w:=w) (base:=base) (fg1 X G h_parts) T G_rings G_greatest_with
 have G_is_thing:=y2t (P:=l.prog) (w:=w) (base:=base) (fg2 X G h_is_thing) T
 have G_tells_each_once:=z4Y (P:=l.prog) (w:=w) (base:=base) (fg2 X G h_tells_each_once) T G_is_thing
 have G_places_of:=y1k (P:=l.prog) (w:=w) (base:=base) (fg2 X G h_places_of) T Z G_tells_each_once
 have G_folded:=y7Q (P:=l.prog) (w:=w) (base:=base) (fg2 X G h_folded) T Z G_part G_stands_together G_places_of
 have G__law_whole:=z9d (P:=l.prog) (w:=w) (base:=base) (fg1 X G h__law_whole) T
 have G__law_cell_at:=z6T (P:=l.prog) (w:=w) (base:=base) (fg2 X G h__law_cell_at) T
 have G__law_table_by:=z6k (P:=l.prog) (w:=w) (base:=base) (fg2 X G h__law_table_by) T
 have G__law_mixed:=z9o (P:=l.prog) (w:=w) (base:=base) (fg1 X G h__law_mixed) T G__law_cell_at G__law_table_by
 have G__law_beats:=z9k (P:=l.prog) (w:=w) (base:=base) (fg3 X G h__law_beats) T
 have G__law_table:=z9b (P:=l.prog) (w:=w) (base:=base) (fg1 X G h__law_table) T G__law_beats
 have G__law_pieces:=z7Z (P:=l.prog) (w:=w) (base:=base) (fg1 X G h__law_pieces) T
 have G__law_part:=y1d (P:=l.prog) (w:=w) (base:=base) (fg2 X G h__law_part) T
 have G__law_weights:=z7d (P:=l.prog) (w:=w) (base:=base) (fg1 X G h__law_weights) T G_weighing G__law_whole
 have G__law_right:=z8K (P:=l.prog) (w:=w) (base:=base) (fg2 X G h__law_right) T Z G_folded G__law_part G__law_weights
 exact law_of (ok_law F_law T Z G_parts G__law_mixed G__law_table G__law_pieces G__law_right)
theorem walk{l:dR}{q:Program}{loose:List Str}{XP:(Str->Option Value)->Heap->Prop}{YP:World->Heap->Prop}{d:DefRec}{K:Params->aa}(hn:l.most=some 63)(hdf:d.params.defaults=[])
  (hlaw:∀ns:List Int,ns.length≤63->y4S [.scr ns]=some (.bl true)) (hY:∀(w:World) (h:Heap),YP w h->(K w.params).In h)
  (F:∀(w:World) (mg:Str->Option Value) (fa:Addr) (h:Heap),(K w.params).In h->h.Ns mainGlobals mg->mg d.name=some (.ref fa) →
   ∃fd:FuncData,(∀(s:Shared) (u:Value),BindsTo s fd ⟨[u],[]⟩ [("script",u)])∧∀base:Heap,(K w.params).In base->base.Ns mainGlobals mg->FnOk l.prog w (K w.params) mg base CX0 22 fa fd ["script"] (x2c (K w.params) y4S)):
  PySem.W.WalkO q loose XP YP l.row.toRowW d [] (fun f vs=>PySem.call f vs):=
 L2.walk_of (n:=63) (k:=22) (x := "script") (CX:=fun _=>CX0) (sp:=fun w=>x2c (K w.params) y4S) hn (by decide) hdf ⟨rfl,by decide,by decide⟩ hY F (fun _ _ a ns hl hO hS=>⟨a,ns,rfl,x0x hO hS,hlaw ns hl,fun _=>rfl⟩) fun _ _ _ _ _ z=>z
end Prg
namespace Prg
open PySem L2
open Lean in
local macro_rules
 | `(tactic| simp! only [$xs,*] $[$loc]?)=>do
  let a ←(("y7J y9u ev_C ev_d2 ev_d1 y6j y4d y7n x2X y9w x3u ev_or ev_if y3E y4x y8W y4C x2U x2P y1e ev_is x2E y6o y6t y6n y7W y6v y7g y6f y8Y y9d y7v y9E y9I x2A y6U x3m x3J x3M ev_m0 y4q y4z y8c y3P y7h y8m y6R x2C x2p x2w y4c y4e y3r y4t y3p y7G x2j y3s y8d y9A y4r x3G y5G y4w eo_2 x2G eo_or y9n x3H y8p y5T y9X eo_nx eo_rt x2O x2F x2H y9R y9t x2R eo_in x2Y y3T y6H x3F x3b eo_r3 y7p y5R y7S x2L x3p ea_lt ea_le ea_gt x2r x3l x3s x3C y6G y9O x3n x2k y6e y5W x3i y5Q y8F y9F y7Z x2s x2Z es_v1 es_v2 x3L y3V y3i y0K y1z y4p x2o x2z y9i y9U eb_bs eb_ms eb_mn eb_s0 eb_sS eb_mc y7D eb_rS eb_r0 eb_ca eb_na".splitOn " ").toArray).mapM fun s=>`(Lean.Parser.Tactic.simpLemma| $(mkIdent s.toName):term)
  let b:Syntax.TSepArray [`Lean.Parser.Tactic.simpStar,`Lean.Parser.Tactic.simpErase,`Lean.Parser.Tactic.simpLemma] "," := ⟨(Syntax.TSepArray.ofElems (sep := ",") a).elemsAndSeps⟩
  `(tactic| simp only [$b,*,$xs,*] $[$loc]?)
local macro_rules | `(tactic| simp_all! only [$xs,*])=>`(tactic| simp only [y7J,y9u,ev_C,ev_d2,ev_d1,y6j,y4d,y7n,x2X,y9w,x3u,ev_or,ev_if,y3E,y4x,y8W,y4C,x2U,x2P,y1e,ev_is,x2E,y6o,y6t,y6n,y7W,y6v,y7g,y6f,y8Y,y9d,y7v,y9E,y9I,x2A,y6U,x3m,x3J,x3M,ev_m0,y4q,y4z,y8c,y3P,y7h,y8m,y6R,x2C,x2p,x2w,y4c,y4e,y3r,y4t,y3p,y7G,x2j,y3s,y8d,y9A,y4r,x3G,y5G,y4w,eo_2,x2G,eo_or,y9n,x3H,y8p,y5T,y9X,eo_nx,eo_rt,x2O,x2F,x2H,y9R,y9t,x2R,eo_in,x2Y,y3T,y6H,x3F,x3b,eo_r3,y7p,y5R,y7S,x2L,x3p,ea_lt,ea_le,ea_gt,x2r,x3l,x3s,x3C,y6G,y9O,x3n,x2k,y6e,y5W,x3i,y5Q,y8F,y9F,y7Z,x2s,x2Z,es_v1,es_v2,x3L,y3V,y3i,y0K,y1z,y4p,x2o,x2z,y9i,y9U,eb_bs,eb_ms,eb_mn,eb_s0,eb_sS,eb_mc,y7D,eb_rS,eb_r0,eb_ca,eb_na,Int.reduceEq,Int.reduceLT,Int.reduceLE,Int.reduceGT,Int.reduceAdd,Int.reduceSub,Int.reduceMul,Int.reduceNeg,decide_true,decide_false,eO,eQ,Bool.or_true,e9,eS,Bool.true_and,dz,dv,eP,eG,$xs,*])
theorem z8O(ns:List Int)(k:Nat):∃c:Int,z0p [.scr ns,.int (k:Int)]=some (.int c):=by
 by_cases h:k<ns.length
 ·refine⟨ns[k],z0r rfl ?_⟩
  have h':decide ((k:Int)<(ns.length:Int))=true:=by simp;omega
  simp! only [z1I,h',at_nat h,z0b]
 ·refine⟨0,z0r rfl ?_⟩
  have h':decide ((k:Int)<(ns.length:Int))=false:=by simp;omega
  simp! only [z1I,h',z0b]
structure Full(m:Nat)(T:List (List Bool)):Prop where
 sq:Sq m T
 own:∀i<m,at2 T i i=false
 two:∀i<m,∀j<m,i≠j->at2 T i j = !at2 T j i
theorem y9f{m i j:Nat}:at2 (ak m (ak m false)) i j=false:=by
 unfold at2
 simp only [aJ,ca]
 by_cases h:i<m
 ·simp only [h,if_true,cY,ca]
  by_cases h2:j<m <;> simp [h2]
 ·simp [h]
theorem y6E{T:List (List Bool)}{i j a b:Nat}{v:Bool}(hi:i<T.length)(hj:j<T[i].length):at2 (T.set i (T[i].set j v)) a b=if a=i∧b=j then v else at2 T a b:=by
 unfold at2
 by_cases h:a=i
 ·subst h
  simp only [aJ,dc hi,cY,ac hi]
  by_cases h2:b=j
  ·subst h2
   simp [hj]
  ·simp [h2,bp (Ne.symm h2)]
 ·simp only [aJ,bp (Ne.symm h)]
  simp [h]
structure Up(m:Nat)(T:List (List Bool))(n n2:Nat):Prop where
 own:∀i<m,at2 T i i=false
 two:∀i j,i<j->j<m->i<n∨(i=n∧j<n2)->at2 T i j = !at2 T j i
theorem up0{m:Nat}:Up m (ak m (ak m false)) 0 0:=⟨fun _ _=>y9f,fun _ _ _ _ h=>by omega⟩
theorem Up.begin{m n:Nat}{T:List (List Bool)}(F:Up m T n 0):Up m T n (n+1):=⟨F.own,fun i j h1 h2 h=>F.two i j h1 h2 (by omega)⟩
theorem Up.row{m n:Nat}{T:List (List Bool)}(F:Up m T n m):Up m T (n+1) 0:=⟨F.own,fun i j h1 h2 h=>F.two i j h1 h2 (by omega)⟩
theorem Up.full{m:Nat}{T:List (List Bool)}(F:Up m T m 0)(sq:Sq m T):Full m T:=⟨sq,F.own,fun i hi j hj hij=>by
 by_cases h:i<j
 ·exact F.two i j h hj (.inl hi)
 ·rw [F.two j i (by omega) hi (.inl hj),Bool.not_not]⟩
theorem Up.next{m n j:Nat}{T:List (List Bool)}{b:Int}(F:Up m T n j)(sq:Sq m T)(hnj:n<j)(hj:j<m)(hb:b=0∨b=1)(h1:n<T.length)(h3:j<(T.set n (T[n].set j (decide (b=0)))).length):
  Up m ((T.set n (T[n].set j (decide (b=0)))).set j ((T.set n (T[n].set j (decide (b=0))))[j].set n (decide (b=1)))) n (j+1):=by
 have h2:j<T[n].length:=by rw [sq.row h1];exact hj
 have sq1:Sq m (T.set n (T[n].set j (decide (b=0)))):=sq.set h1
 have h4:n<(T.set n (T[n].set j (decide (b=0))))[j].length:=by rw [sq1.row h3];omega
 have e:∀x y,at2 ((T.set n (T[n].set j (decide (b=0)))).set j ((T.set n (T[n].set j (decide (b=0))))[j].set n (decide (b=1)))) x y=if x=j∧y=n then decide (b=1)else if x=n∧y=j then decide (b=0)else at2 T x y:=fun x y=>by
  rw [y6E h3 h4,y6E h1 h2]
 refine⟨fun i hi=>?_,fun i k hik hk h=>?_⟩
 ·rw [e,if_neg (by omega),if_neg (by omega)]
  exact F.own i hi
 ·rw [e,e]
  by_cases z:i=n∧k=j
  ·obtain⟨rfl,rfl⟩:=z
   rw [if_neg (by omega),if_pos ⟨rfl,rfl⟩,if_pos ⟨rfl,rfl⟩]
   rcases hb with rfl | rfl <;> rfl
  ·rw [if_neg (by omega),if_neg z,if_neg (by omega),if_neg (by omega)]
   exact F.two i k hik hk (by omega)
theorem tab6{m:Nat}(hm:m≤1000){x0:Option D}{a2 a3 a4 a5:Option D}:z2c (some (z4p 0 m)) (z2e z3x (z0w (dRep (mkL (z0o [dC (.bl false)])) (z0d 1))) [x0,some (.int (m:Int)),a2,a3,a4,a5])=some ((ak m (ak m false)).map z2v):=by
 rw [z2G,z1W (fun _=>z2v (ak m false)) (by simp;omega) fun x hx=>?_]
 ·congr 1
  apply bb <;> simp
 ·have e:(ak m (D.bl false))=(ak m false).map bD:=by rw [dJ];rfl
  simp! only [y2m (show m≤1000000 by omega),e,z1T (z1c _)]
  rfl
theorem z8z(c:Int)(m:Nat)(hm:m≤8):hol (z1b [.int c,.int (m:Int)]) fun d=>∃T,d=z0A T∧Full m T:=by
 refine z6C rfl ?_
 have f1:mulI (.int c) (.int 48271)=some (.int (c*48271)):=ea_mul (.inr (by omega))
 obtain⟨r0,f2⟩:∃r0:Int,z6v (.int (c*48271)) (.int 2147483647)=some (.int r0):=⟨_,z4v (by omega)⟩
 have tl:D.lst ((ak m (ak m false)).map z2v)=z0A (ak m (ak m false)):=rfl
 simp! only [z2l,f1,f2,z1m (show m≤1000000 by omega),tab6 (show m≤1000 by omega),tl]
 refine z0v (I:=fun s=>∃(T:List (List Bool)) (o3 o4 o5:Option SD),s=[some (.sh (.int c)),some (.sh (.int (m:Int))),some (.ow (z0A T)),o3,o4,o5]∧Full m T) ?_ ?_
 ·refine z3j (fun n s=>∃(T:List (List Bool)) (a:Int) (o4 o5:Option SD),s=[some (.sh (.int c)),some (.sh (.int (m:Int))),some (.ow (z0A T)),some (.sh (.int a)),o4,o5]∧Sq m T∧Up m T n 0) ?_ ?_ ?_
  ·exact⟨_,r0,none,none,rfl,⟨by simp,by simp⟩,up0⟩
  ·rintro n hn s ⟨T,a,o4,o5,rfl,sq,F⟩
   have hr2:rng2 (some (.int ((n:Int)+1))) (some (.int (m:Int)))=some (z4p ((n:Int)+1) ((m:Int) - ((n:Int)+1)).toNat):=y6D ⟨by omega,by omega,by omega,by omega⟩
   simp! only [bW,hr2]
   refine z3j (fun n2 s=>∃(T:List (List Bool)) (a:Int) (o5:Option SD),s=[some (.sh (.int c)),some (.sh (.int (m:Int))),some (.ow (z0A T)),some (.sh (.int a)),some (.sh (.int (n:Int))),o5]∧Sq m T∧Up m T n (n+1+n2)) ?_ ?_ ?_
   ·exact⟨T,a,o5,rfl,sq,F.begin⟩
   ·rintro n2 hn2 s ⟨T,a,o5,rfl,sq,F⟩
    obtain⟨j,hj⟩:∃j:Nat,j=n+1+n2:=⟨_,rfl⟩
    have hj':(n:Int)+1+(n2:Int)=(j:Int):=by omega
    have hjm:j<m:=by omega
    rw [←hj]at F
    obtain⟨r,hr3,hb⟩:∃r:Int,z6v (.int a) (.int 2)=some (.int r)∧(r=0∨r=1):=⟨_,z4v (by omega),Int.emod_two_eq _⟩
    obtain⟨b,g2⟩:∃b:Int,x0e (.int a) (.int 2)=some (.int b):=⟨_,y3Y ⟨by omega,by omega⟩⟩
    have h1:n<T.length:=by rw [sq.1];exact hn
    have h2:j<T[n].length:=by rw [sq.row h1];exact hjm
    have e1:=y4a (v:=decide (r=0)) h1 h2
    have sq1:Sq m (T.set n (T[n].set j (decide (r=0)))):=sq.set h1
    have h3:j<(T.set n (T[n].set j (decide (r=0)))).length:=by rw [sq1.1];exact hjm
    have h4:n<(T.set n (T[n].set j (decide (r=0))))[j].length:=by rw [sq1.row h3];exact hn
    have e2:=y4a (v:=decide (r=1)) h3 h4
    simp! only [hj',g2,hr3,e1,e2,z0b]
    have F2:=F.next sq (by omega) hjm hb h1 h3
    have ej:n+1+(n2+1)=j+1:=by omega
    rw [ej]
    exact⟨_,_,_,rfl,sq1.set h3,F2⟩
   ·rintro s ⟨T,a,o5,rfl,sq,F⟩
    have hz:n+1+((m:Int) - ((n:Int)+1)).toNat=m:=by omega
    rw [hz]at F
    exact⟨T,_,_,_,rfl,sq,F.row⟩
  ·rintro s ⟨T,a,o4,o5,rfl,sq,F⟩
   exact⟨_,rfl,T,_,_,_,rfl,F.full sq⟩
 ·rintro s ⟨T,o3,o4,o5,rfl,F⟩
  simp! only [z0b]
  exact⟨_,rfl,T,rfl,F⟩
def prD(z:Nat×Nat):D:=.tup [.int (z.1:Int),.int (z.2:Int)]
def y7U(hs:List (Nat×Nat)):D:=.lst (hs.map prD)
def z7S(Is:List (List (List Bool))):D:=.lst (Is.map z0A)
theorem y2z{hs:List (Nat×Nat)}:z1z [y7U hs]=some (.int (hs.length:Int)):=z6Q
structure Part(Is:List (List (List Bool)))(hs:List (Nat×Nat)):Prop where
 inn:∀k,k<Is.length->Full (Is.getD k []).length (Is.getD k [])∧0<(Is.getD k []).length
 mem:∀z,z∈hs↔z.1<Is.length∧z.2<(Is.getD z.1 []).length
 nd:hs.Nodup
structure Mix(O:List (List Bool))(Is:List (List (List Bool)))(hs:List (Nat×Nat)):Prop where
 out:Full O.length O
 pos:0<O.length
 o8:O.length≤8
 len:Is.length=O.length
 prt:Part Is hs
 le:hs.length≤8
theorem y0T{α:Type}{xs:List α}{x d:α}{k:Nat}:(xs++[x]).getD k d=if k<xs.length then xs.getD k d else if k=xs.length then x else d:=by
 by_cases h:k<xs.length
 ·rw [if_pos h]
  simp [aJ,bv h]
 ·rw [if_neg h]
  by_cases h2:k=xs.length
  ·subst h2
   simp [aJ]
  ·rw [if_neg h2]
   have:(xs++[x])[k]? = none:=by rw [eL];simp;omega
   simp [aJ,this]
theorem x1j(ns:List Int):hol (z1N [.scr ns]) fun d=>∃O Is hs,d = .lst [z0A O,z7S Is,y7U hs]∧Mix O Is hs:=by
 refine z6C rfl ?_
 obtain⟨c0,e0⟩:=z8O ns 0
 have e0:z0p [.scr ns,.int 0]=some (.int c0):=e0
 obtain⟨c1,e1⟩:=z8O ns 1
 have e1:z0p [.scr ns,.int 1]=some (.int c1):=e1
 obtain⟨k,ek,hk⟩:=z8U (x:=c0) (n:=4) (by omega)
 have f1:z6v (.int c0) (.int 4)=some (.int (k:Int)):=by rw [z4v (by omega)];exact congrArg _ (congrArg _ ek)
 have f2:x0e (.int c0) (.int 4)=some (.int (c0 / 4)):=y3Y ⟨by omega,by omega⟩
 obtain⟨r,f3⟩:∃r:Int,z6v (.int (c0 / 4)) (.int 4)=some (.int r):=⟨_,z4v (by omega)⟩
 have nil1:D.lst []=z7S []:=rfl
 simp! only [z3R,e0,f1,f2,f3]
 refine z0v (I:=fun s=>∃m:Nat,s=[some (.sh (.scr ns)),some (.sh (.int (m:Int))),none,none,none,none,none,none,none,none,none]∧0<m∧m≤8) ?_ ?_
 ·by_cases hr:r=1
  ·simp! only [hr,decide_true,z0b]
   exact⟨_,rfl,1+k+4,by congr 3,by omega,by omega⟩
  ·simp! only [decide_eq_false hr,z0b]
   exact⟨_,rfl,1+k,by congr 3,by omega,by omega⟩
 rintro s ⟨m,rfl,h0,h8⟩
 obtain⟨_,e2,O,rfl,F⟩:=z8z c1 m h8
 have hO:O.length=m:=F.sq.1
 simp! only [e1,e2,z4i,z1d,hO,y8g (show m≤1000000 by omega)]
 refine z0v (I:=fun s=>∃(Is:List (List (List Bool))) (hs:List (Nat×Nat)) (o5 o6 o7 o8 o9 o10:Option SD),s=[some (.sh (.scr ns)),some (.sh (.int (m:Int))),some (.ow (z0A O)),some (.ow (z7S Is)),some (.ow (y7U hs)),o5,o6,o7,o8,o9,o10]∧Is.length=m∧Part Is hs∧hs.length≤8) ?_ ?_
 ·refine z3j (fun n s=>∃(Is:List (List (List Bool))) (hs:List (Nat×Nat)) (o5 o6 o7 o8 o9 o10:Option SD),s=[some (.sh (.scr ns)),some (.sh (.int (m:Int))),some (.ow (z0A O)),some (.ow (z7S Is)),some (.ow (y7U hs)),o5,o6,o7,o8,o9,o10]∧Is.length=n∧Part Is hs∧hs.length+m≤8+n) ?_ ?_ ?_
  ·exact⟨[],[],none,none,none,none,none,none,rfl,rfl,⟨fun k h=>absurd h (by simp),fun z=>by simp,bi⟩,by simpa using h8⟩
  ·rintro n hn s ⟨Is,hs,o5,o6,o7,o8,o9,o10,rfl,hI,P,hl⟩
   obtain⟨c,ec⟩:=z8O ns (2+n)
   have ec:z0p [.scr ns,.int (2+(n:Int))]=some (.int c):=by rw [←ec];congr 3
   obtain⟨most,hmost⟩:∃most:Nat,(9:Int) - (hs.length:Int) - (m:Int)+(n:Int)=(most:Int):=⟨9+n - hs.length - m,by omega⟩
   have hm1:0<most:=by omega
   have hm8:most+hs.length+m=9+n:=by omega
   obtain⟨j4,ej4,hj4⟩:=z8U (x:=c) (n:=4) (by omega)
   have g1:z6v (.int c) (.int 4)=some (.int (j4:Int)):=by rw [z4v (by omega)];exact congrArg _ (congrArg _ ej4)
   have g2:x0e (.int c) (.int 4)=some (.int (c / 4)):=y3Y ⟨by omega,by omega⟩
   obtain⟨jm,ejm,hjm⟩:=z8U (x:=c / 4) (n:=most) (by omega)
   have g3:z6v (.int (c / 4)) (.int (most:Int))=some (.int (jm:Int)):=by rw [z4v (by omega),ejm]
   have g4:x0e (.int c) (.int 32)=some (.int (c / 32)):=y3Y ⟨by omega,by omega⟩
   obtain⟨sz,esz,hs1,hs2⟩:∃sz:Nat,atI [D.int 1,.int (if(most:Int)<3 then(most:Int)else 3),.int (1+(jm:Int))] (if(2:Int)<(j4:Int)then 2 else(j4:Int))=some (.int (sz:Int))∧0<sz∧sz≤most:=by
    have:j4=0∨j4=1∨j4=2∨j4=3:=by omega
    rcases this with rfl | rfl | rfl | rfl
    ·exact⟨1,rfl,by omega,by omega⟩
    ·by_cases h3:(most:Int)<3
     ·exact⟨most,by rw [if_pos h3];rfl,by omega,by omega⟩
     ·exact⟨3,by rw [if_neg h3];rfl,by omega,by omega⟩
    ·exact⟨1+jm,rfl,by omega,by omega⟩
    ·exact⟨1+jm,rfl,by omega,by omega⟩
   obtain⟨_,e3,T,rfl,FT⟩:=z8z (c / 32) sz (by omega)
   have hT:T.length=sz:=FT.sq.1
   have ap:m0V z9a (some (z7S Is)) (some [z0A T])=some (z7S (Is++[T])):=z9R (by omega)
   simp! only [bW,ec,y2z,z1d,hO,hmost,g1,g2,g3,g4,ea_min,esz,e3,ap,z1m (show sz≤1000000 by omega)]
   refine z3j (fun a s=>∃(hs':List (Nat×Nat)) (o9 o10:Option SD),s=[some (.sh (.scr ns)),some (.sh (.int (m:Int))),some (.ow (z0A O)),some (.ow (z7S (Is++[T]))),some (.ow (y7U hs')),some (.sh (.int (n:Int))),some (.ow (.int c)),some (.sh (.int (most:Int))),some (.sh (.int (sz:Int))),o9,o10]∧hs'.length=hs.length+a∧hs'.Nodup∧∀z,z∈hs'↔z∈hs∨(z.1=n∧z.2<a)) ?_ ?_ ?_
   ·exact⟨hs,_,_,rfl,rfl,P.nd,fun z=>by simp⟩
   ·rintro a ha s ⟨hs',o9,o10,rfl,hl',nd',mem'⟩
    obtain⟨c6,ec6⟩:=z8O ns (6+hs'.length)
    have ec6:z0p [.scr ns,.int (6+(hs'.length:Int))]=some (.int c6):=by rw [←ec6];congr 3
    obtain⟨t,et,ht⟩:=z8U (x:=c6) (n:=hs'.length+1) (by omega)
    have et:c6 % ((hs'.length:Int)+1)=(t:Int):=et
    have m1:z6v (.int c6) (.int ((hs'.length:Int)+1))=some (.int (t:Int)):=by rw [z4v (show(0:Int)<(hs'.length:Int)+1 by omega),et]
    have pe:D.tup [.int (n:Int),.int (a:Int)]=prD (n,a):=rfl
    have im:x0C (some [.int (t:Int),prD (n,a)])=some [.int (t:Int),prD (n,a)]:=y3G rfl
    have iv:m0V insF (some (y7U hs')) (some [.int (t:Int),prD (n,a)])=some (y7U (hs'.take t++(n,a)::hs'.drop t)):=x1H (by omega) (by omega)
    have pm:(hs'.take t++(n,a)::hs'.drop t).Perm ((n,a)::hs'):=by
     refine List.perm_middle.trans ?_
     rw [fu]
    have hno:(n,a)∉hs':=fun h=>by
     rcases (mem' _).mp h with h | h
     ·have:=((P.mem _).mp h).1
      simp only at this
      omega
     ·simp only at h
      omega
    simp! only [bW,y2z,ec6,m1,pe,im,iv,z0b]
    refine⟨_,_,_,rfl,?_,?_,fun z=>?_⟩
    ·rw [pm.length_eq,aY];omega
    ·exact pm.nodup_iff.mpr (av.mpr ⟨hno,nd'⟩)
    ·rw [pm.mem_iff,ai,mem' z]
     constructor
     ·rintro (h | h | h)
      ·subst h;exact .inr ⟨rfl,by simp⟩
      ·exact .inl h
      ·exact .inr ⟨h.1,by omega⟩
     ·rintro (h | h)
      ·exact .inr (.inl h)
      ·by_cases hz:z.2<a
       ·exact .inr (.inr ⟨h.1,hz⟩)
       ·exact .inl (Prod.ext h.1 (by show z.2=a;omega))
   ·rintro s ⟨hs',o9,o10,rfl,hl',nd',mem'⟩
    refine⟨_,_,_,_,_,_,_,_,rfl,by simp [hI],⟨fun k hk=>?_,fun z=>?_,nd'⟩,by omega⟩
    ·rw [y0T]
     rw [aF,di]at hk
     by_cases h:k<Is.length
     ·rw [if_pos h];exact P.inn k h
     ·rw [if_neg h,if_pos (by omega),hT];exact⟨FT,hs1⟩
    ·rw [mem' z,P.mem z,y0T,aF,di]
     by_cases h:z.1<Is.length
     ·rw [if_pos h]
      constructor
      ·rintro (q | q)
       ·exact⟨by omega,q.2⟩
       ·omega
      ·rintro q
       exact .inl ⟨h,q.2⟩
     ·rw [if_neg h]
      by_cases h2:z.1=Is.length
      ·rw [if_pos h2,hT]
       constructor
       ·rintro (q | q)
        ·omega
        ·exact⟨by omega,q.2⟩
       ·rintro q
        exact .inr ⟨by omega,q.2⟩
      ·constructor
       ·rintro (q | q) <;> omega
       ·rintro q;omega
  ·rintro s ⟨Is,hs,o5,o6,o7,o8,o9,o10,rfl,hI,P,hl⟩
   exact⟨_,rfl,Is,hs,_,_,_,_,_,_,rfl,hI,P,by omega⟩
 ·rintro s ⟨Is,hs,o5,o6,o7,o8,o9,o10,rfl,hI,P,hl⟩
  simp! only [z0b]
  exact⟨_,rfl,O,Is,hs,rfl,⟨by rw [hO];exact F,by omega,by omega,by omega,P,hl⟩⟩
def y7e(O:List (List Bool))(Is:List (List (List Bool)))(hs:List (Nat×Nat)):D:=.lst [z0A O,z7S Is,y7U hs]
theorem mix_0{O:List (List Bool)}{Is:List (List (List Bool))}{hs:List (Nat×Nat)}:ixD (y7e O Is hs) (.int 0)=some (z0A O):=(rfl)
theorem mix_1{O:List (List Bool)}{Is:List (List (List Bool))}{hs:List (Nat×Nat)}:ixD (y7e O Is hs) (.int 1)=some (z7S Is):=(rfl)
theorem x0E{O:List (List Bool)}{Is:List (List (List Bool))}{hs:List (Nat×Nat)}:ixD (y7e O Is hs) (.int 2)=some (y7U hs):=(rfl)
theorem pr_0{z:Nat×Nat}:ixD (prD z) (.int 0)=some (.int (z.1:Int)):=(rfl)
theorem pr_1{z:Nat×Nat}:ixD (prD z) (.int 1)=some (.int (z.2:Int)):=(rfl)
def mb(O:List (List Bool))(Is:List (List (List Bool)))(a b:Nat×Nat):Bool:=if a.1=b.1 then at2 (Is.getD a.1 []) a.2 b.2 else at2 O a.1 b.1
def x0d(O:List (List Bool))(Is:List (List (List Bool)))(hs:List (Nat×Nat)):List (List Bool):=hs.map fun a=>hs.map fun b=>mb O Is a b
section
variable{O:List (List Bool)}{Is:List (List (List Bool))}{hs:List (Nat×Nat)}
theorem x1e(M:Mix O Is hs){a b:Nat×Nat}(ha:a∈hs)(hb:b∈hs):z2E [y7e O Is hs,prD a,prD b]=some (.bl (mb O Is a b)):=by
 refine z0r rfl ?_
 obtain⟨a1,a2⟩:=(M.prt.mem a).mp ha
 obtain⟨b1,b2⟩:=(M.prt.mem b).mp hb
 by_cases h:a.1=b.1
 ·have hd:decide ((a.1:Int)=(b.1:Int))=true:=by simp [h]
  have i1:ixD (z7S Is) (.int (a.1:Int))=some (z0A (Is.getD a.1 [])):=y6g a1
  have i2:=ix2 (M.prt.inn a.1 a1).1.sq a2 (j:=b.2) (by rw [h];exact b2)
  simp! only [z2C,pr_0,pr_1,hd,mix_1,i1,i2,z0b]
  unfold mb
  rw [if_pos h]
 ·have hd:decide ((a.1:Int)=(b.1:Int))=false:=by simp;omega
  have i2:=ix2 M.out.sq (i:=a.1) (j:=b.1) (by rw [←M.len];exact a1) (by rw [←M.len];exact b1)
  simp! only [z2C,pr_0,pr_1,hd,mix_0,i2,z0b]
  unfold mb
  rw [if_neg h]
theorem y9a:y4W (y7U hs)=some (hs.map prD):=(rfl)
theorem y8B(M:Mix O Is hs):z2y [y7e O Is hs]=some (z0A (x0d O Is hs)):=by
 refine z0r rfl ?_
 simp! only [z3J,z4i,x0E,y9a]
 refine z0v (I:=fun s=>∃o2,s=[some (.sh (y7e O Is hs)),some (.ow (z0A (x0d O Is hs))),o2]) ?_ ?_
 ·refine z2I (fun pre s=>∃o2,s=[some (.sh (y7e O Is hs)),some (.ow (z0A (pre.map fun a=>hs.map fun b=>mb O Is a b))),o2]) ⟨_,rfl⟩ ?_ fun s z=>⟨s,rfl,z⟩
  rintro pre a post e s ⟨o2,rfl⟩
  have ha:a∈hs:=by rw [e];simp
  have hpl:pre.length≤8:=by
   have:=M.le
   rw [e]at this
   simp at this
   omega
  simp! only [x0E,y9a]
  rw [z1W (enc:=prD) (xs:=hs) (fun b=>bD (mb O Is a b)) (by have:=M.le;omega) fun b hb=>by simp! only [x1e M ha hb,bD]]
  have er:D.lst (hs.map fun b=>bD (mb O Is a b))=z2v (hs.map fun b=>mb O Is a b):=by unfold z2v;rw [aL];rfl
  have ap:m0V z9a (some (z0A (pre.map fun a=>hs.map fun b=>mb O Is a b))) (some [z2v (hs.map fun b=>mb O Is a b)])=some (z0A ((pre.map fun a=>hs.map fun b=>mb O Is a b)++[hs.map fun b=>mb O Is a b])):=z9R (by simp;omega)
  simp! only [er,ap,z0b]
  exact⟨_,by rw [aI];rfl⟩
 ·rintro s ⟨o2,rfl⟩
  simp! only [z0b]
theorem z9l{i j:Nat}(hi:i<hs.length)(hj:j<hs.length):at2 (x0d O Is hs) i j=mb O Is hs[i] hs[j]:=by
 unfold at2 x0d
 rw [z9n hi,z9n hj]
theorem sq_mtab:Sq hs.length (x0d O Is hs):=by
 refine⟨by simp [x0d],fun r hr=>?_⟩
 obtain⟨i,_,rfl⟩:=aK.mp hr
 simp
theorem y8J(M:Mix O Is hs):Full hs.length (x0d O Is hs):=by
 refine⟨sq_mtab,fun i hi=>?_,fun i hi j hj hij=>?_⟩
 ·rw [z9l hi hi]
  unfold mb
  rw [if_pos rfl]
  obtain⟨a1,a2⟩:=(M.prt.mem hs[i]).mp (aR hi)
  exact(M.prt.inn _ a1).1.own _ a2
 ·rw [z9l hi hj,z9l hj hi]
  obtain⟨a1,a2⟩:=(M.prt.mem hs[i]).mp (aR hi)
  obtain⟨b1,b2⟩:=(M.prt.mem hs[j]).mp (aR hj)
  have hne:hs[i]≠hs[j]:=fun h=>hij ((List.getElem_inj M.prt.nd).mp h)
  unfold mb
  by_cases h:hs[i].1=hs[j].1
  ·rw [if_pos h,if_pos h.symm,←h]
   rw [←h]at b2
   exact(M.prt.inn _ a1).1.two _ a2 _ b2 fun e=>hne (Prod.ext h e)
  ·rw [if_neg h,if_neg (Ne.symm h)]
   exact M.out.two _ (by rw [←M.len];exact a1) _ (by rw [←M.len];exact b1) h
theorem hs_pos(M:Mix O Is hs):0<hs.length:=by
 have h0:0<Is.length:=by rw [M.len];exact M.pos
 have:((0,0):Nat×Nat)∈hs:=(M.prt.mem _).mpr ⟨h0,(M.prt.inn 0 h0).2⟩
 exact e6 this
def llD(L:List (List Nat)):D:=.lst (L.map thD)
def pc(hs:List (Nat×Nat))(k:Nat):List Nat:=(ad hs.length).filter fun t=>decide ((hs.getD t (0,0)).1=k)
def pcs(n:Nat)(hs:List (Nat×Nat)):List (List Nat):=(ad n).map (pc hs)
theorem y6l(M:Mix O Is hs):z1Z [y7e O Is hs]=some (llD (pcs O.length hs)):=by
 refine z0r rfl ?_
 have h8:=M.o8
 simp! only [z3c,z4i,mix_0,z1d,y8g (show O.length≤1000000 by omega)]
 refine z0v (I:=fun s=>∃o2,s=[some (.sh (y7e O Is hs)),some (.ow (llD (pcs O.length hs))),o2]) ?_ ?_
 ·refine z3j (fun n s=>∃o2,s=[some (.sh (y7e O Is hs)),some (.ow (llD (pcs n hs))),o2]) ⟨_,rfl⟩ ?_ fun s z=>⟨s,rfl,z⟩
  rintro n hn s ⟨o2,rfl⟩
  simp! only [bW,x0E,y2z,z1m (show hs.length≤1000000 by have:=M.le;omega)]
  rw [z2G,y2W (enc:=nD) (xs:=ad hs.length) (fun t=>decide ((hs.getD t (0,0)).1=n)) nD (by have:=M.le;simp;omega) (fun t ht=>by
   have i1:ixD (y7U hs) (.int (t:Int))=some (prD (hs.getD t (0,0))):=y6g (ae.mp ht)
   have hd:decide (((hs.getD t (0,0)).1:Int)=(n:Int))=decide ((hs.getD t (0,0)).1=n):=decide_eq_decide.mpr (by omega)
   simp! only [nD,x0E,i1,pr_0,hd]) fun t ht _=>by simp! only [nD]]
  have ap:m0V z9a (some (llD (pcs n hs))) (some [thD (pc hs n)])=some (llD (pcs n hs++[pc hs n])):=z9R (by simp [pcs];omega)
  have ef:z6d (some (((ad hs.length).filter fun t=>decide ((hs.getD t (0,0)).1=n)).map nD))=some ((pc hs n).map nD):=z2J _
  have et:D.lst ((pc hs n).map nD)=thD (pc hs n):=rfl
  simp! only [ef,et,ap,z0b]
  exact⟨_,by
   unfold pcs
   rw [b7,aI]
   rfl⟩
 ·rintro s ⟨o2,rfl⟩
  simp! only [z0b]
end
def y5i(T:List (List Bool))(o:Nat)(th:List Nat):Bool:=(th.all fun j=>at2 T o j) || !(th.any fun j=>at2 T o j)
def brk(T:List (List Bool))(o:Nat)(th:List Nat):Bool:=!th.contains o && !y5i T o th
def prt(T:List (List Bool))(m:Nat)(th:List Nat):List Nat:=(ad m).filter fun o=>brk T o th
def togB(T:List (List Bool))(m:Nat)(th:List Nat):Bool:=(ad m).all fun o=>!brk T o th
section
variable{T:List (List Bool)}{m:Nat}{th:List Nat}
theorem sees_eq(sq:Sq m T)(hm:m≤900){o:Nat}(ho:o<m)(hl:th.length≤900)(h:∀x∈th,x<m):z2b [z0A T,.int (o:Int),thD th]=some (.bl (y5i T o th)):=by
 refine z0r rfl ?_
 simp! only [z2W,z3u]
 rw [z1W (fun j=>bD (at2 T o j)) (by omega) fun j hj=>by simp! only [nD,ix2 sq ho (h j hj),bD]]
 have e:(th.map fun j=>bD (at2 T o j))=(th.map fun j=>at2 T o j).map bD:=by rw [aL];rfl
 have e2:((th.map fun j=>at2 T o j).all fun b=>b)=th.all fun j=>at2 T o j:=by rw [e7];rfl
 have e3:((th.map fun j=>at2 T o j).any fun b=>b)=th.any fun j=>at2 T o j:=by rw [cy];rfl
 simp! only [e,z1T (z1c _),y2Y,x3A,e2,e3,z0b]
 unfold y5i
 cases (th.all fun j=>at2 T o j) <;> simp! only [z0b,eQ,e9]
theorem z8s(sq:Sq m T)(hm:m≤900)(hl:th.length≤900)(h:∀x∈th,x<m):z1L [z0A T,thD th]=some (thD (prt T m th)):=by
 refine z0r rfl ?_
 simp! only [z7c,z1d,sq.1,z1m (show m≤1000000 by omega)]
 rw [z2G,y2W (enc:=nD) (xs:=ad m) (fun o=>brk T o th) nD (by simp;omega) (fun o ho=>by
  have ho:=ae.mp ho
  simp! only [nD,y8r,sees_eq sq hm ho hl h]
  unfold brk
  cases th.contains o <;> cases y5i T o th <;> simp! only [eP,eG,eS,dz,dv,Bool.true_and,bH]) fun o _ _=>by simp! only [nD]]
 simp! only [z2J,z0b]
 rfl
theorem tog_one{x:Nat}:togB T m [x]=true:=aV.mpr fun o _=>by
 unfold brk y5i
 simp only [List.all_cons,List.all_nil,cK,List.any_nil,eS,eO]
 cases at2 T o x <;> simp
end
theorem tog_of{m:Nat}{T:List (List Bool)}{A:List Nat}(h:prt T m A=[]):togB T m A=true:=aV.mpr fun o ho=>by
 have:=de.mp h o ho
 simpa using this
theorem y6x{m:Nat}:∀{th:List Nat},th.Nodup->(∀x∈th,x<m)->th.length=m->∀o,o<m->o∈th:=fun {th} nd lt hl o ho=>by
 by_cases h:o∈th
 ·exact h
 ·have nd2:(o::th).Nodup:=av.mpr ⟨h,nd⟩
  have:(o::th).length≤(ad m).length:=List.Nodup.length_le_of_subset nd2 fun x hx=>by
   rcases ai.mp hx with rfl | hx
   ·exact ae.mpr ho
   ·exact ae.mpr (lt x hx)
  simp at this
  omega
def rsI(ns:List Int):List Int:=z6m (ddI ns)
theorem x0i{a b:List Int}(ha:a.Nodup)(hb:b.Nodup)(h:∀x,x∈a↔x∈b):a.Perm b:=(bg ha hb).mpr h
theorem rs_is{a ns:List Int}(nd:a.Nodup)(hs:a.Pairwise (· ≤ ·))(h:∀x,x∈a↔x∈ns):a=rsI ns:=z5C (x0i nd (z8F ns) fun x=>by rw [h x,dd_mem]) hs
theorem rs_len{ns U:List Int}(h:∀x∈ns,x∈U):(ddI ns).length≤U.length:=List.Nodup.length_le_of_subset (z8F ns) fun x hx=>h x (dd_mem.mp hx)
theorem x0y{ns:List Int}(h1:ns.length≤1000)(h2:(ddI ns).length<64):y0F (.lst (ns.map .int))=some ((rsI ns).map .int):=by
 show((z1A (ns.map D.int)).bind fun ns=>if ns.length≤1000∧(ddI ns).length<64 then some ((z6m (ddI ns)).map D.int)else none)=_
 rw [z5j,aq,if_pos ⟨h1,h2⟩]
 rfl
theorem y4M{m:Nat}{p:Nat->Bool}:((ad m).filter p).Pairwise (· < ·):=List.Pairwise.filter _ bG
def wid(T:List (List Bool))(m:Nat)(W:List Nat):List Nat:=(ad m).filter fun x=>W.contains x||brk T x W
inductive Rea(T:List (List Bool))(m:Nat):List Nat->List Nat->Prop
 |here (W:List Nat):Rea T m W W
 |step {W V:List Nat}:prt T m W≠[]->Rea T m (wid T m W) V->Rea T m W V
theorem Rea.snoc{T:List (List Bool)}{m:Nat}{W A:List Nat}(h:Rea T m W A)(hn:prt T m A≠[]):Rea T m W (wid T m A):=by
 induction h with
 |here W=>exact .step hn (.here _)
 |step hn' _ ih=>exact .step hn' (ih hn)
section
variable{T:List (List Bool)}{m:Nat}{W:List Nat}
structure Ris(m:Nat)(W:List Nat):Prop where
 up:W.Pairwise (· < ·)
 lt:∀x∈W,x<m
theorem Ris.nd(h:Ris m W):W.Nodup:=h.up.imp fun h=>aC h
theorem Ris.len(h:Ris m W):W.length≤m:=by simpa using List.Nodup.length_le_of_subset h.nd fun x hx=>ae.mpr (h.lt x hx)
theorem ris_fil{p:Nat->Bool}:Ris m ((ad m).filter p):=⟨y4M,fun x hx=>ae.mp (aj.mp hx).1⟩
theorem y9q{x:Nat}(h:x∈prt T m W):x∉W∧x<m:=by
 have h:=aj.mp h
 refine⟨fun z=>?_,ae.mp h.1⟩
 have h2:=h.2
 unfold brk at h2
 have:W.contains x=true:=by simpa using z
 rw [this]at h2
 cases h2
theorem y8S{o:List Nat}(h:o.Pairwise (· < ·)):(o.map fun n=>((n:Nat):Int)).Pairwise (· ≤ ·):=by
 rw [bF]
 exact h.imp fun h=>by omega
theorem cast_nd{o:List Nat}(h:o.Nodup):(o.map fun n=>((n:Nat):Int)).Nodup:=by
 unfold List.Nodup
 rw [bF]
 exact h.imp fun h z=>h (by omega)
theorem cast_mem{o:List Nat}{x:Nat}:((x:Nat):Int)∈o.map (fun n=>((n:Nat):Int))↔x∈o:=by
 rw [aK]
 constructor
 ·rintro⟨y,hy,e⟩
  have:y=x:=by omega
  exact this ▸ hy
 ·exact fun h=>⟨x,h,rfl⟩
theorem y7C{a b:List Nat}(h:a.Perm b):(a.map fun n=>((n:Nat):Int)).Perm (b.map fun n=>((n:Nat):Int)):=h.map _
theorem z6q(o:List Nat):o.map nD=(o.map fun n=>((n:Nat):Int)).map D.int:=by rw [aL];rfl
theorem x0M{a b:List Nat}(ha:a.Nodup)(hb:b.Nodup)(h:∀x,x∈a↔x∈b):a.Perm b:=(bg ha hb).mpr h
theorem x1F(R:Ris m W)(hm:m≤30):y5p [thD (W++prt T m W)]=some ((wid T m W).map nD):=by
 unfold thD
 have hl:=R.len
 have hp:(prt T m W).length≤m:=ba (bE ..) (by simp)
 rw [z6q,x1x (by simp;omega),z6q (wid T m W)]
 congr 2
 refine(z5C ?_ (y8S ris_fil.up)).symm
 refine y7C (x0M ris_fil.nd (bf.mpr ⟨R.nd,(ris_fil (p:=fun o=>brk T o W)).nd,fun x hx y hy z=>(y9q hy).1 (z ▸ hx)⟩) fun x=>?_)
 unfold prt
 rw [aj,ay,aj,ae,cR,aE]
 constructor
 ·rintro⟨h1,h2 | h2⟩
  ·exact .inl h2
  ·exact .inr ⟨h1,h2⟩
 ·rintro (h | h)
  ·exact⟨R.lt x h,.inl h⟩
  ·exact⟨h.1,.inr h.2⟩
theorem wid_len(R:Ris m W)(hn:prt T m W≠[]):W.length<m∧W.length<(wid T m W).length:=by
 obtain⟨x,hx⟩:=List.exists_mem_of_ne_nil _ hn
 obtain⟨h1,h2⟩:=y9q hx
 have nd:(x::W).Nodup:=av.mpr ⟨h1,R.nd⟩
 constructor
 ·have:(x::W).length≤(ad m).length:=List.Nodup.length_le_of_subset nd fun y hy=>by
   rcases ai.mp hy with z | z
   ·exact ae.mpr (z ▸ h2)
   ·exact ae.mpr (R.lt y z)
  simp at this
  omega
 ·have:(x::W).length≤(wid T m W).length:=List.Nodup.length_le_of_subset nd fun y hy=>by
   unfold wid
   rw [aj,ae,cR,aE]
   rcases ai.mp hy with z | z
   ·subst z
    exact⟨h2,.inr (aj.mp hx).2⟩
   ·exact⟨R.lt y z,.inl z⟩
  simp at this
  omega
def w0(m:Nat)(th:List Nat):List Nat:=(ad m).filter fun x=>th.contains x
theorem z8x{th:List Nat}(lt:∀x∈th,x<m){x:Nat}:x∈w0 m th↔x∈th:=by
 unfold w0
 rw [aj,ae,aE]
 exact⟨fun h=>h.2,fun h=>⟨lt x h,h⟩⟩
theorem x0f{th:List Nat}(lt:∀x∈th,x<m)(hm:m≤30)(hl:th.length≤1000):y0F (thD th)=some ((w0 m th).map nD):=by
 unfold thD
 rw [z6q,z6q (w0 m th)]
 have hmem:∀x:Int,x∈(w0 m th).map (fun n=>((n:Nat):Int))↔x∈th.map fun n=>((n:Nat):Int):=fun x=>by
  constructor
  ·intro h
   obtain⟨y,hy,rfl⟩:=aK.mp h
   exact cast_mem.mpr ((z8x lt).mp hy)
  ·intro h
   obtain⟨y,hy,rfl⟩:=aK.mp h
   exact cast_mem.mpr ((z8x lt).mpr hy)
 rw [x0y (by simpa using hl) (cW (rs_len fun x hx=>(hmem x).mpr hx) (by
  have:(w0 m th).length≤m:=(ris_fil (m:=m) (p:=fun x=>th.contains x)).len
  rw [am]
  omega))]
 rw [←rs_is (cast_nd ris_fil.nd) (y8S ris_fil.up) hmem]
 rfl
theorem y4Y(sq:Sq m T)(hm:m≤8){th:List Nat}(lt:∀x∈th,x<m)(hl:th.length≤1000):hol (z4U [z0A T,thD th]) fun d=>∃A,d=thD A∧Rea T m (w0 m th) A∧prt T m A=[]∧Ris m A:=by
 refine z6C rfl ?_
 have s0:=x0f lt (by omega) hl
 have p0:∀{W:List Nat},Ris m W->z1L [z0A T,thD W]=some (thD (prt T m W)):=fun {W} R=>z8s sq (by omega) (by have:=R.len;omega) R.lt
 have tl:∀W:List Nat,D.lst (W.map nD)=thD W:=fun _=>rfl
 have R0:Ris m (w0 m th):=ris_fil
 simp! only [z7h,aq,s0,z2J,tl,p0 R0]
 refine z0v (I:=fun s=>∃A o3,s=[some (.sh (z0A T)),some (.sh (thD th)),some (.ow (thD A)),o3]∧Rea T m (w0 m th) A∧prt T m A=[]∧Ris m A) ?_ ?_
 ·refine z3V (fun n s=>∃A,s=[some (.sh (z0A T)),some (.sh (thD th)),some (.ow (thD A)),some (.ow (thD (prt T m A)))]∧Rea T m (w0 m th) A∧Ris m A∧m≤A.length+n) (n:=m) ⟨_,rfl,.here _,R0,by omega⟩ ?_ (by omega)
  rintro n s ⟨A,rfl,hr,R,hn⟩
  refine⟨!(prt T m A).isEmpty,by simp! only [x3v],fun hz=>?_,fun hz=>?_⟩
  ·exact⟨_,rfl,A,_,rfl,hr,by simpa using hz,R⟩
  ·have hne:prt T m A≠[]:=by simpa using hz
   obtain⟨k1,k2⟩:=wid_len R hne
   have ct:x2W (some (thD A)) (some (thD (prt T m A)))=some ((A++prt T m A).map nD):=by
    have:(prt T m A).length≤m:=ba (bE ..) (by simp)
    exact x3O (by omega)
   refine⟨n - 1,by omega,?_⟩
   simp! only [ct,x1F R (show m≤30 by omega),z2J,tl,p0 (W:=wid T m A) ris_fil,z0b]
   exact⟨_,rfl,hr.snoc hne,ris_fil,by omega⟩
 ·rintro s ⟨A,o3,rfl,h1,h2,h3⟩
  simp! only [z0b]
  exact⟨_,rfl,A,rfl,h1,h2,h3⟩
end
theorem y0P{r0:List Bool}:∀(r:List Bool) (k:Nat),z1p (two (z4m (z1r (z0d 2)) (z0d 1) [some (z2v r0)])) (z0s k (r.map bD))=some ((z4s k r).map nD)
 |[],_=>rfl
 |b::r,k=>by
  have ih:=y0P (r0:=r0) r (k+1)
  rw [aG]
  show z1p _ (.tup [.int (k:Nat),bD b]::z0s (k+1) (r.map bD))=_
  unfold z1p
  rw [ih]
  have e:two (z4m (z1r (z0d 2)) (z0d 1) [some (z2v r0)]) (.tup [.int (k:Nat),bD b])=some (if b=true then some (nD k)else none):=by
   show z4m _ _ _ _ _=_
   unfold z4m
   have e1:z1r (z0d 2) ([some (z2v r0)]++[some (.int (k:Nat)),some (bD b)])=some b:=rfl
   rw [e1]
   cases b <;> rfl
  have t:z4s k (b::r)=if b=true then k::z4s (k+1) r else z4s (k+1) r:=rfl
  rw [e,t]
  cases b <;> rfl
theorem y1G(r:List Bool)(hl:r.length≤1000):z1f [z2v r]=some (thD ((ad r.length).filter fun i=>r.getD i false)):=by
 refine z0r rfl ?_
 have e:z4s 0 r=(ad r.length).filter fun i=>r.getD i false:=by
  rw [y5Z,List.range_eq_range']
  rfl
 have h0:y2E (z2v r)=some (z0s 0 (r.map bD)):=rfl
 have hl':(z0s 0 (r.map bD)).length≤1000000:=by rw [z7a,am];omega
 have fl:=z1T (z8f (z4s 0 r))
 simp! only [z3q,h0,z4P hl',y0P,fl,z0b]
 rw [e]
 rfl
theorem z6K{n:Nat}{T:List (List Bool)}(sq:Sq n T)(hn:n≤1000){k:Nat}(hk:k<n):z1a [z0A T,.int (k:Int)]=some (thD ((ad n).filter fun j=>at2 T k j)):=by
 refine z0r rfl ?_
 have hk':k<T.length:=by rw [sq.1];exact hk
 have p:=y1G (T.getD k []) (by rw [sq.len hk];omega)
 rw [sq.len hk]at p
 simp! only [z4M,z9V hk',p,z0b]
 rfl
def ky(n:Nat):Key:=.inl (n:Int)
def stD(ks:List Nat)(vs:List Nat):D:=.dct (ks.map ky) (vs.map nD)
theorem y8U{ks vs:List Nat}{y:Nat}:inK (.int (y:Int)) (stD ks vs)=some (ks.contains y):=by
 show some (y2q (ks.map ky) (.inl (y:Int)))=_
 congr 1
 unfold y2q
 rw [cy,cZ]
 congr 1
 funext z
 show decide ((Sum.inl (z:Int):Key)=Sum.inl (y:Int))=(y==z)
 by_cases h:z=y
 ·subst h;simp
 ·have h1:decide ((Sum.inl (z:Int):Key)=Sum.inl (y:Int))=false:=decide_eq_false fun e=>h (by cases e;rfl)
  have h2:(y==z)=false:=by rw [beq_eq_false_iff_ne];exact fun e=>h e.symm
  rw [h1,h2]
theorem st_put{ks vs:List Nat}{x y:Nat}(h:y∉ks)(hl:ks.length≤1000000):y8T (some (stD ks vs)) (some (.int (y:Int))) (some (.int (x:Int)))=some (stD (ks++[y]) (vs++[x])):=by
 show(if z1P (vs.map nD)=true∧(ks.map ky).length<sizeLine then _ else _)=_
 rw [if_pos ⟨z8f vs,by rw [am,PySem.sizeLine_eq];omega⟩]
 have hh:y2q (ks.map ky) (.inl (y:Int))=false:=by
  have:=y8U (ks:=ks) (vs:=vs) (y:=y)
  have hc:ks.contains y=false:=by rw [←c5,aE];exact h
  rw [hc]at this
  exact Option.some.inj this
 unfold y1B y1D stD
 rw [hh,if_neg ar,if_neg ar,aI,aI]
 rfl
inductive Rch(T:List (List Bool))(m a:Nat):Nat->Prop
 |here:Rch T m a a
 |step {x y:Nat}:Rch T m a x->y<m->at2 T x y=true->Rch T m a y
structure Stp(T:List (List Bool))(m a:Nat)(ks:List Nat):Prop where
 nd:ks.Nodup
 lt:∀x∈ks,x<m
 on:a∈ks
 rc:∀x∈ks,Rch T m a x
def Cld(T:List (List Bool))(m:Nat)(ks:List Nat)(x:Nat):Prop:=∀y<m,at2 T x y=true->y∈ks
theorem Stp.add{T:List (List Bool)}{m a x y:Nat}{ks:List Nat}(P:Stp T m a ks)(hx:x∈ks)(hy:y<m)(h:at2 T x y=true)(hn:y∉ks):Stp T m a (ks++[y]):=
 ⟨bf.mpr ⟨P.nd,by simp,fun u hu v hv z=>by rw [ax]at hv;exact hn (hv ▸ z ▸ hu)⟩,fun z hz=>by
  rcases ay.mp hz with q | q
  ·exact P.lt z q
  ·rw [ax.mp q];exact hy,ay.mpr (.inl P.on),fun z hz=>by
  rcases ay.mp hz with q | q
  ·exact P.rc z q
  ·rw [ax.mp q];exact .step (P.rc x hx) hy h⟩
theorem Stp.len{T:List (List Bool)}{m a:Nat}{ks:List Nat}(P:Stp T m a ks):ks.length≤m:=by
 have:=List.Nodup.length_le_of_subset (l₂:=ad m) P.nd fun x hx=>ae.mpr (P.lt x hx)
 simpa using this
theorem x1N{m:Nat}{T:List (List Bool)}(sq:Sq m T)(hm:m≤90){a:Nat}(ha:a<m):hol (z2x [z0A T,.int (a:Int)]) fun d=>∃ks vs,d=stD ks vs∧Stp T m a ks∧∀x∈ks,Cld T m ks x:=by
 refine z6C rfl ?_
 have s0:D.dct [.inl (a:Int)] [.int (a:Int)]=stD [a] [a]:=rfl
 have f0:z6d (some [.int (a:Int)])=some [.int (a:Int)]:=rfl
 simp! only [z3X,s0,f0,th_one]
 refine z0v (I:=fun s=>∃ks vs o3 o4 o5 o6,s=[some (.sh (z0A T)),some (.sh (.int (a:Int))),some (.ow (stD ks vs)),o3,o4,o5,o6]∧Stp T m a ks∧∀x∈ks,Cld T m ks x) ?_ ?_
 ·refine z3V (fun n s=>∃ks vs E o5 o6,s=[some (.sh (z0A T)),some (.sh (.int (a:Int))),some (.ow (stD ks vs)),some (.ow (thD E)),none,o5,o6]∧Stp T m a ks∧(∀x∈E,x∈ks)∧(∀x∈ks,x∉E->Cld T m ks x)∧(E≠[]->m+1≤ks.length+n)) (n:=m) ⟨[a],[a],[a],_,_,rfl,⟨by simp,fun x hx=>by rw [ax.mp hx];exact ha,by simp,fun x hx=>by rw [ax.mp hx];exact .here⟩,fun x hx=>hx,fun x hx hn=>absurd hx hn,fun _=>by simp;omega⟩ ?_ (by omega)
  rintro n s ⟨ks,vs,E,o5,o6,rfl,P,hE,hC,hn⟩
  refine⟨!E.isEmpty,by simp! only [x3v],fun hz=>?_,fun hz=>?_⟩
  ·have hz:E=[]:=by simpa using hz
   exact⟨_,rfl,ks,vs,_,_,_,_,rfl,P,fun x hx=>hC x hx (by rw [hz];simp)⟩
  ·have hz:E≠[]:=by simpa using hz
   have hn:=hn hz
   have hl:=P.len
   refine⟨n - 1,by omega,?_⟩
   simp! only [z4i,x2I,z3u]
   refine z0v (I:=fun s=>∃F ws o5 o6,s=[some (.sh (z0A T)),some (.sh (.int (a:Int))),some (.ow (stD (ks++F) ws)),some (.sh (thD E)),some (.ow (thD F)),o5,o6]∧Stp T m a (ks++F)∧∀x∈E,Cld T m (ks++F) x) ?_ ?_
   ·refine z2I (fun pre s=>∃F ws o5 o6,s=[some (.sh (z0A T)),some (.sh (.int (a:Int))),some (.ow (stD (ks++F) ws)),some (.sh (thD E)),some (.ow (thD F)),o5,o6]∧Stp T m a (ks++F)∧∀x∈pre,Cld T m (ks++F) x) ⟨[],vs,_,_,by rw [aP],by rw [aP];exact P,fun x hx=>nomatch hx⟩ ?_ fun s z=>⟨s,rfl,z⟩
    rintro pre x post e s ⟨F,ws,o5,o6,rfl,P1,C1⟩
    have hxE:x∈E:=by rw [e];simp
    have hxk:=hE x hxE
    have hxm:=P.lt x hxk
    simp! only [nD,z6K sq (show m≤1000 by omega) hxm,z3u]
    refine z2I (fun q s=>∃F ws o6,s=[some (.sh (z0A T)),some (.sh (.int (a:Int))),some (.ow (stD (ks++F) ws)),some (.sh (thD E)),some (.ow (thD F)),some (.sh (.int (x:Int))),o6]∧Stp T m a (ks++F)∧(∀x∈pre,Cld T m (ks++F) x)∧∀y∈q,y∈ks++F) ⟨F,ws,_,rfl,P1,C1,fun y hy=>nomatch hy⟩ ?_ ?_
    ·rintro q y r e2 s ⟨F,ws,o6,rfl,P2,C2,Q2⟩
     have hy:y∈(ad m).filter fun j=>at2 T x j:=by rw [e2];simp
     have hy:=aj.mp hy
     have hym:=ae.mp hy.1
     have hl2:=P2.len
     cases hc:(ks++F).contains y with
     |true=>
      simp! only [nD,y8U,hc,bH,eP,z0b]
      refine⟨F,ws,_,rfl,P2,C2,fun z hz=>?_⟩
      rcases ay.mp hz with z1 | z1
      ·exact Q2 z z1
      ·rw [ax.mp z1];exact aE.mp hc
     |false=>
      have hny:y∉ks++F:=fun z=>by rw [aE.mpr z]at hc;cases hc
      have im:x0C (some [.int (y:Int)])=some [.int (y:Int)]:=y3G rfl
      have pt:=st_put (vs:=ws) (x:=x) hny (by omega)
      have ap:=app_thV (th:=F) (k:=y) (by rw [aF]at hl2;omega)
      have P3:=P2.add (ay.mpr (.inl hxk)) hym hy.2 hny
      rw [aZ]at P3 pt
      have sub:∀z,z∈ks++F->z∈ks++(F++[y]):=fun z hz=>by rw [←aZ];exact ay.mpr (.inl hz)
      simp! only [nD,y8U,hc,bH,eG,pt,im,ap,z0b]
      refine⟨F++[y],_,_,rfl,P3,fun z hz w hw h=>sub w (C2 z hz w hw h),fun z hz=>?_⟩
      rcases ay.mp hz with z1 | z1
      ·exact sub z (Q2 z z1)
      ·rw [ax.mp z1];simp
    ·rintro s ⟨F,ws,o6,rfl,P2,C2,Q2⟩
     refine⟨F,ws,_,_,rfl,P2,fun z hz=>?_⟩
     rcases ay.mp hz with z1 | z1
     ·exact C2 z z1
     ·rw [ax.mp z1]
      exact fun y hy h=>Q2 y (aj.mpr ⟨ae.mpr hy,h⟩)
   ·rintro s ⟨F,ws,o5,o6,rfl,P1,C1⟩
    simp! only [z0b]
    refine⟨ks++F,ws,F,_,_,rfl,P1,fun x hx=>ay.mpr (.inr hx),fun x hx hnx=>?_,fun hF=>?_⟩
    ·have hxk:x∈ks:=by
      rcases ay.mp hx with z | z
      ·exact z
      ·exact absurd z hnx
     by_cases hxE:x∈E
     ·exact C1 x hxE
     ·exact fun y hy h=>ay.mpr (.inl (hC x hxk hxE y hy h))
    ·have:0<F.length:=bS.mpr hF
     rw [aF]
     omega
 ·rintro s ⟨ks,vs,o3,o4,o5,o6,rfl,P,C⟩
  simp! only [z0b]
  exact⟨_,rfl,ks,vs,rfl,P,C⟩
open Classical in
noncomputable def rcL(T:List (List Bool))(m a:Nat):List Nat:=(ad m).filter fun x=>decide (Rch T m a x)
theorem rcL_mem{T:List (List Bool)}{m a x:Nat}:x∈rcL T m a↔x<m∧Rch T m a x:=by
 unfold rcL
 rw [aj,ae]
 exact and_congr_right fun _=>@decide_eq_true_iff _ (Classical.propDecidable _)
theorem rcL_len{T:List (List Bool)}{m a:Nat}:(rcL T m a).length≤m:=by
 have:=bE (fun x=>@decide (Rch T m a x) (Classical.propDecidable _)) (ad m)
 rw [aW]at this
 exact this
theorem y6K:∀ks:List Nat,z5b (ks.map ky)=some (ks.map fun n=>((n:Nat):Int))
 |[]=>rfl
 |k::ks=>by
  show(z5b (ks.map ky)).map (fun ns=>(k:Int)::ns)=_
  rw [y6K ks]
  rfl
theorem y5d{m:Nat}{T:List (List Bool)}(sq:Sq m T)(hm:m≤60){a:Nat}(ha:a<m):z3U [z0A T,.int (a:Int)]=some (thD (rcL T m a)):=by
 refine z0r rfl ?_
 obtain⟨d,e,ks,vs,rfl,P,C⟩:=x1N sq (by omega) ha
 have hl:=P.len
 have hin:∀x,x∈ks↔x∈rcL T m a:=fun x=>by
  rw [rcL_mem]
  refine⟨fun h=>⟨P.lt x h,P.rc x h⟩,fun h=>?_⟩
  have:∀y,Rch T m a y->y∈ks:=fun y r=>by
   induction r with
   |here=>exact P.on
   |step r1 hy h ih=>exact C _ ih _ hy h
  exact this x h.2
 have nd2:(rcL T m a).Nodup:=List.Pairwise.filter _ br
 have pm:((rcL T m a).map fun n=>((n:Nat):Int)).Perm (ks.map fun n=>((n:Nat):Int)):=((bg nd2 P.nd).mpr fun x=>(hin x).symm).map _
 have so:((rcL T m a).map fun n=>((n:Nat):Int)).Pairwise (· ≤ ·):=by
  rw [bF]
  refine List.Pairwise.imp ?_ (List.Pairwise.filter _ bG)
  intro x y h
  omega
 have es:=z5C pm so
 have st:y0V [stD ks vs]=some ((rcL T m a).map nD):=by
  show((z5b (ks.map ky)).bind fun ns=>if ns.length<64 then some ((z6m ns).map D.int)else none)=_
  rw [y6K,aq,if_pos (by rw [am];omega),←es,aL]
  rfl
 simp! only [z6E,e,st,z2J,z7p,z0b]
noncomputable def y5B(T:List (List Bool))(m:Nat):List Nat:=(ad m).map fun a=>(rcL T m a).length
def plL(cs:List Nat)(c:Nat):List Nat:=(cs.zipIdx.filter fun z=>decide ((z.1:Int)=(c:Int))).map fun z=>z.2
theorem plL_mem{cs:List Nat}{c i:Nat}:i∈plL cs c↔cs[i]? = some c:=by
 unfold plL
 rw [aK]
 constructor
 ·rintro⟨z,hz,rfl⟩
  obtain⟨h1,h2⟩:=aj.mp hz
  have h2:z.1=c:=by have:=of_decide_eq_true h2;omega
  have:=d4.mp h1
  rw [this,h2]
 ·intro h
  exact⟨(c,i),aj.mpr ⟨d4.mpr h,decide_eq_true rfl⟩,rfl⟩
theorem y5k{cs:List Nat}(hl:cs.length≤1000)(c:Nat):z1x [thD cs,.int (c:Int)]=some (thD (plL cs c)):=by
 refine z0r rfl ?_
 have cx:z2c (some (z0s 0 (cs.map nD))) (two (z4m (z0M (d2 eqD (z0d 3) (z0d 1))) (z0d 2) [some (thD cs),some (.int (c:Int))]))=some ((plL cs c).map nD):=by
  rw [cx2_of (enc:=nD) (fun _ x=>decide ((x:Int)=(c:Int))) (fun i _=>nD i) hl (fun i h=>by simp! only [nD]) fun i h _=>by simp! only [];rfl]
  unfold plL
  rw [aL]
  rfl
 simp! only [z3d,enum_th,cx,z2J,z7p,z0b]
def dnL(m:Nat):List Nat:=(ad m).map fun i=>m - i
noncomputable def rgL(T:List (List Bool))(m:Nat):List (List Nat):=((dnL m).filter fun c=>(y5B T m).contains c).map fun c=>plL (y5B T m) c
theorem eo_rngN{i j c:Int}(h:c = -1∧-(2 ^ 61)≤i∧i<2 ^ 61∧-(2 ^ 61)≤j∧j<2 ^ 61):rngN (some (.int i)) (some (.int j)) (some (.int c))=some (y6B i (-1) (i - j).toNat):=if_pos h
theorem y3a{m:Nat}{T:List (List Bool)}(sq:Sq m T)(hm:m≤60):z7t [z0A T]=some (.lst ((rgL T m).map thD)):=by
 refine z0r rfl ?_
 have hcl:(y5B T m).length=m:=by simp [y5B]
 have c1:z2c (some (z4p 0 m)) (z2e z3x (z0i z1z [z0i z3U [z0d 0,z0d 2]]) [some (z0A T),none])=some ((y5B T m).map nD):=by
  rw [z2G,z1W (enc:=nD) (xs:=ad m) (fun a=>nD (rcL T m a).length) (by simp;omega) fun a ha=>by simp! only [nD,y5d sq hm (ae.mp ha),z8o]]
  unfold y5B
  rw [aL]
  rfl
 have rn:rngN (some (.int (m:Int))) (some (.int 0)) (some (.int (-1)))=some ((dnL m).map nD):=by
  have hz:((m:Int) - 0).toNat=m:=by omega
  have e1:rngN (some (.int (m:Int))) (some (.int 0)) (some (.int (-1)))=some (y6B (m:Int) (-1) ((m:Int) - 0).toNat):=eo_rngN ⟨rfl,by omega,by omega,by omega,by omega⟩
  have e2:y6B (m:Int) (-1) m=(dnL m).map nD:=by
   unfold y6B dnL
   rw [aL]
   refine bB fun i hi=>?_
   have:=ae.mp hi
   have e:(m:Int)+(i:Int)*(-1)=((m - i:Nat):Int):=by omega
   exact congrArg D.int e
  rw [e1,hz,e2]
 have c2:z2c (some ((dnL m).map nD)) (z2e (z0M (d2 inD (z0d 2) (z0d 1))) (z0i z1x [z0d 1,z0d 2]) [some (z0A T),some (thD (y5B T m))])=some ((rgL T m).map thD):=by
  rw [y2W (enc:=nD) (xs:=dnL m) (fun c=>(y5B T m).contains c) (fun c=>thD (plL (y5B T m) c)) (by simp [dnL];omega) (fun c hc=>by simp! only [nD,in_ths]) fun c hc _=>by simp! only [nD,y5k (show(y5B T m).length≤1000 by omega)]]
  unfold rgL
  rw [aL]
  rfl
 simp! only [y2i,z1d,sq.1,z1m (show m≤1000000 by omega),c1,z2J,z7p,rn,c2,z0b]
theorem Rch.trans{T:List (List Bool)}{m a b c:Nat}(h:Rch T m a b)(h2:Rch T m b c):Rch T m a c:=by
 induction h2 with
 |here=>exact h
 |step _ hy e ih=>exact .step ih hy e
theorem rch_tot{T:List (List Bool)}{m a b:Nat}(F:Full m T)(ha:a<m)(hb:b<m):Rch T m a b∨Rch T m b a:=by
 by_cases e:a=b
 ·rw [e];exact .inl .here
 ·cases h:at2 T a b with
  |true=>exact .inl (.step .here hb h)
  |false=>exact .inr (.step .here ha (by rw [F.two b hb a ha (Ne.symm e),h];rfl))
theorem x2B{T:List (List Bool)}{m a:Nat}:(rcL T m a).Nodup:=List.Pairwise.filter _ br
theorem y2w{T:List (List Bool)}{m a b:Nat}(F:Full m T)(ha:a<m)(hb:b<m):Rch T m a b↔(rcL T m b).length≤(rcL T m a).length:=by
 constructor
 ·intro h
  exact List.Nodup.length_le_of_subset x2B fun x hx=>rcL_mem.mpr ⟨(rcL_mem.mp hx).1,h.trans (rcL_mem.mp hx).2⟩
 ·intro h
  by_cases hn:Rch T m a b
  ·exact hn
  ·have h2:Rch T m b a:=(rch_tot F ha hb).resolve_left hn
   have nd:(b::rcL T m a).Nodup:=av.mpr ⟨fun z=>hn (rcL_mem.mp z).2,x2B⟩
   have:(b::rcL T m a).length≤(rcL T m b).length:=List.Nodup.length_le_of_subset nd fun x hx=>by
    rcases ai.mp hx with z | z
    ·rw [z];exact rcL_mem.mpr ⟨hb,.here⟩
    ·exact rcL_mem.mpr ⟨(rcL_mem.mp z).1,h2.trans (rcL_mem.mp z).2⟩
   rw [aY]at this
   omega
theorem y1c{T:List (List Bool)}{m a b:Nat}(F:Full m T)(ha:a<m)(hb:b<m)(h:(rcL T m b).length<(rcL T m a).length):at2 T a b=true:=by
 cases e:at2 T a b with
 |true=>rfl
 |false=>
  have hab:a≠b:=fun z=>by rw [z]at h;omega
  have h1:Rch T m b a:=.step .here ha (by rw [F.two b hb a ha (Ne.symm hab),e];rfl)
  have:=(y2w F hb ha).mp h1
  omega
theorem rch_pos{T:List (List Bool)}{m a:Nat}(ha:a<m):0<(rcL T m a).length:=e6 (rcL_mem.mpr ⟨ha,.here⟩)
theorem uniqL{α:Type}{R:α->α->Prop}(as:∀x y,R x y->R y x->False):∀{l l':List α},l.Pairwise R->l'.Pairwise R->(∀x,x∈l↔x∈l')->l=l'
 |[],[],_,_,_=>rfl
 |[],b::l',_,_,h=>by have:=(h b).mpr ah;cases this
 |a::l,[],_,_,h=>by have:=(h a).mp ah;cases this
 |a::l,b::l',p,p',h=>by
  have p1:=bh.mp p
  have p2:=bh.mp p'
  have e:a=b:=by
   rcases ai.mp ((h a).mp ah)with z | z
   ·exact z
   ·rcases ai.mp ((h b).mpr ah)with y | y
    ·exact y.symm
    ·exact(as a b (p1.1 b y) (p2.1 a z)).elim
  subst e
  refine congrArg _ (uniqL as p1.2 p2.2 fun x=>⟨fun hx=>?_,fun hx=>?_⟩)
  ·rcases ai.mp ((h x).mp (ag _ hx))with z | z
   ·subst z;exact(as x x (p1.1 x hx) (p1.1 x hx)).elim
   ·exact z
  ·rcases ai.mp ((h x).mpr (ag _ hx))with z | z
   ·subst z;exact(as x x (p2.1 x hx) (p2.1 x hx)).elim
   ·exact z
def Upp(f:Nat->Nat)(r s:List Nat):Prop:=r≠[]∧s≠[]∧∀a∈r,∀b∈s,f b<f a
def cls(m:Nat)(f:Nat->Nat)(a:Nat):List Nat:=(ad m).filter fun b=>decide (f b=f a)
structure Rgs(m:Nat)(f:Nat->Nat)(L:List (List Nat)):Prop where
 pw:L.Pairwise (Upp f)
 mem:∀r,r∈L↔∃a<m,r=cls m f a
theorem y5x{cs:List Nat}{c:Nat}:(plL cs c).Pairwise (· < ·):=by
 unfold plL
 rw [bF]
 refine List.Pairwise.filter _ ?_
 have h:(cs.zipIdx.map fun z=>z.2).Pairwise (· < ·):=by
  rw [show(cs.zipIdx.map fun z=>z.2)=dY 0 cs.length from List.zipIdx_map_snd 0 cs]
  exact List.pairwise_lt_range'
 exact bF.mp h
theorem y7L{T:List (List Bool)}{m:Nat}:Rgs m (fun a=>(rcL T m a).length) (rgL T m):=by
 have hc:∀a c,(y5B T m)[a]? = some c↔a<m∧(rcL T m a).length=c:=fun a c=>by
  unfold y5B
  rw [aN]
  by_cases h:a<m
  ·rw [dA h]
   simp [h]
  ·rw [bZ (by simp;omega)]
   simp [h]
 have pe:∀a<m,plL (y5B T m) (rcL T m a).length=cls m (fun a=>(rcL T m a).length) a:=fun a ha=>
  uniqL (R:=(· < ·)) (fun x y h h'=>by omega) y5x (List.Pairwise.filter _ bG) fun x=>by
   rw [plL_mem,hc]
   unfold cls
   rw [aj,ae,decide_eq_true_iff]
 refine⟨?_,fun r=>?_⟩
 ·unfold rgL
  rw [bF]
  have hd:(dnL m).Pairwise (· > ·):=by
   unfold dnL
   rw [bF]
   refine List.Pairwise.imp_of_mem ?_ bG
   intro x y hx hy h
   have:=ae.mp hy
   show m - y<m - x
   omega
  refine List.Pairwise.imp_of_mem ?_ (List.Pairwise.filter _ hd)
  intro c d hcm hdm hcd
  have hcm:=(aj.mp hcm).2
  have hdm:=(aj.mp hdm).2
  obtain⟨i,hi⟩:=du (aE.mp hcm)
  obtain⟨j,hj⟩:=du (aE.mp hdm)
  refine⟨cq (plL_mem.mpr hi),cq (plL_mem.mpr hj),fun a ha b hb=>?_⟩
  have h1:=(hc a c).mp (plL_mem.mp ha)
  have h2:=(hc b d).mp (plL_mem.mp hb)
  show(rcL T m b).length<(rcL T m a).length
  have:c>d:=hcd
  omega
 ·unfold rgL
  rw [aK]
  constructor
  ·rintro⟨c,hcm,rfl⟩
   have hcm:=(aj.mp hcm).2
   obtain⟨i,hi⟩:=du (aE.mp hcm)
   have h1:=(hc i c).mp hi
   exact⟨i,h1.1,by rw [←h1.2,pe i h1.1]⟩
  ·rintro⟨a,ha,rfl⟩
   refine⟨(rcL T m a).length,aj.mpr ⟨?_,aE.mpr (fB ((hc a _).mpr ⟨ha,rfl⟩))⟩,pe a ha⟩
   unfold dnL
   have h1:=rcL_len (T:=T) (m:=m) (a:=a)
   have h2:=rch_pos (T:=T) ha
   exact aK.mpr ⟨m - (rcL T m a).length,ae.mpr (by omega),by omega⟩
def wk(T:List (List Bool)):Nat->List Nat->Prop
 |_,[]=>True
 |x,y::r=>at2 T x y=true∧wk T y r
def lsN:Nat->List Nat->Nat
 |x,[]=>x
 |_,y::r=>lsN y r
structure Cyc(T:List (List Bool))(c:Nat)(r:List Nat):Prop where
 nd:(c::r).Nodup
 wk:wk T c r
 cl:r≠[]->at2 T (lsN c r) c=true
inductive Det(T:List (List Bool))(L:List Nat)(h b:Nat):List Nat->Prop
 |one {x:Nat}:x∈L->at2 T h x=true->at2 T x b=true->Det T L h b [x]
 |two {x y:Nat}:x∈L->y∈L->at2 T h x=true->at2 T x y=true->at2 T y b=true->Det T L h b [x,y]
def Stg(T:List (List Bool))(R:List Nat):Prop:=∀S:Nat->Prop,(∃x∈R,S x)->(∃y∈R,¬S y)->∃x∈R,∃y∈R,S x∧¬S y∧at2 T x y=true
theorem Full.tot{m:Nat}{T:List (List Bool)}(F:Full m T){x y:Nat}(hx:x<m)(hy:y<m)(hne:x≠y):at2 T x y=true∨at2 T y x=true:=by
 have:=F.two x hx y hy hne
 cases h:at2 T x y with
 |true=>exact .inl rfl
 |false=>
  rw [h]at this
  cases h2:at2 T y x with
  |true=>exact .inr rfl
  |false=>rw [h2]at this;cases this
theorem Full.no{m:Nat}{T:List (List Bool)}(F:Full m T){x y:Nat}(hx:x<m)(hy:y<m)(h1:at2 T x y=true)(h2:at2 T y x=true):False:=by
 by_cases hne:x=y
 ·subst hne
  rw [F.own x hx]at h1
  cases h1
 ·have:=F.two x hx y hy hne
  rw [h1,h2]at this
  cases this
theorem x0Q{m:Nat}{T:List (List Bool)}(F:Full m T){a:Nat}:Stg T (cls m (fun a=>(rcL T m a).length) a):=by
 rintro S ⟨x0,hx0,sx⟩ ⟨y0,hy0,sy⟩
 apply Classical.byContradiction
 intro hn
 obtain⟨hx1,hx2⟩:=aj.mp hx0
 obtain⟨hy1,hy2⟩:=aj.mp hy0
 have hx1:=ae.mp hx1
 have hy1:=ae.mp hy1
 have hx2:(rcL T m x0).length=(rcL T m a).length:=of_decide_eq_true hx2
 have hy2:(rcL T m y0).length=(rcL T m a).length:=of_decide_eq_true hy2
 have hr:Rch T m x0 y0:=(y2w F hx1 hy1).mpr (by omega)
 have key:∀z,Rch T m x0 z->z<m∧((rcL T m z).length<(rcL T m a).length∨((rcL T m z).length=(rcL T m a).length∧S z)):=fun z h=>by
  induction h with
  |here=>exact⟨hx1,.inr ⟨hx2,sx⟩⟩
  | @step x y _ hy hxy ih=>
   refine⟨hy,?_⟩
   have le:(rcL T m y).length≤(rcL T m x).length:=(y2w F ih.1 hy).mp (.step .here hy hxy)
   rcases ih.2 with q | ⟨q1,q2⟩
   ·exact .inl (by omega)
   ·by_cases hc:(rcL T m y).length=(rcL T m a).length
    ·refine .inr ⟨hc,Classical.byContradiction fun ns=>hn ⟨x,aj.mpr ⟨ae.mpr ih.1,decide_eq_true q1⟩,y,aj.mpr ⟨ae.mpr hy,decide_eq_true hc⟩,q2,ns,hxy⟩⟩
    ·exact .inl (by omega)
 rcases (key y0 hr).2 with q | q
 ·omega
 ·exact sy q.2
def Md(T:List (List Bool))(m:Nat)(S:Nat->Prop):Prop:=∀o<m,¬S o->(∀x<m,S x->at2 T o x=true)∨∀x<m,S x->at2 T o x=false
theorem brk_no{T:List (List Bool)}{o:Nat}{th:List Nat}:brk T o th=false↔(o∈th∨(∀x∈th,at2 T o x=true)∨∀x∈th,at2 T o x=false):=by
 unfold brk y5i
 constructor
 ·intro h
  by_cases ho:o∈th
  ·exact .inl ho
  ·have hc:th.contains o=false:=by rw [←c5,aE];exact ho
   rw [hc]at h
   have key:∀X:Bool,(!false && !X)=false->X=true:=by decide
   have h:=key _ h
   rcases dD.mp h with q | q
   ·exact .inr (.inl (aV.mp q))
   ·have q:(th.any fun j=>at2 T o j)=false:=by simpa using q
    exact .inr (.inr fun x hx=>by
     have:=cz.mp q x hx
     simpa using this)
 ·rintro (h | h | h)
  ·rw [aE.mpr h];rfl
  ·rw [aV.mpr h];simp
  ·have:(th.any fun j=>at2 T o j)=false:=cz.mpr fun x hx=>by rw [h x hx];exact ar
   rw [this];simp
theorem y0G{T:List (List Bool)}{m:Nat}{A:List Nat}(lt:∀x∈A,x<m):togB T m A=true↔Md T m fun x=>x∈A:=by
 unfold togB
 rw [aV]
 constructor
 ·intro h o ho hn
  have:=h o (ae.mpr ho)
  have:=brk_no.mp (show brk T o A=false by simpa using this)
  rcases this with q | q | q
  ·exact absurd q hn
  ·exact .inl fun x _ hx=>q x hx
  ·exact .inr fun x _ hx=>q x hx
 ·intro h o ho
  have ho:=ae.mp ho
  have:brk T o A=false:=by
   rw [brk_no]
   by_cases hn:o∈A
   ·exact .inl hn
   ·rcases h o ho hn with q | q
    ·exact .inr (.inl fun x hx=>q x (lt x hx) hx)
    ·exact .inr (.inr fun x hx=>q x (lt x hx) hx)
  rw [this]
  rfl
theorem Rea.least{T:List (List Bool)}{m:Nat}{W A:List Nat}(h:Rea T m W A){S:Nat->Prop}(hS:Md T m S):(∀x∈W,x<m∧S x)->∀x∈A,S x:=by
 induction h with
 |here W=>exact fun hw x hx=>(hw x hx).2
 | @step W V hn _ ih=>
  refine fun hw=>ih fun x hx=>?_
  obtain⟨h1,h2⟩:=aj.mp hx
  have h1:=ae.mp h1
  refine⟨h1,?_⟩
  rcases dD.mp h2 with q | q
  ·exact(hw x (aE.mp q)).2
  ·apply Classical.byContradiction
   intro hsx
   have:brk T x W=false:=by
    rw [brk_no]
    rcases hS x h1 hsx with w | w
    ·exact .inr (.inl fun y hy=>w y (hw y hy).1 (hw y hy).2)
    ·exact .inr (.inr fun y hy=>w y (hw y hy).1 (hw y hy).2)
   rw [this]at q
   cases q
theorem Rea.more{T:List (List Bool)}{m:Nat}{W A:List Nat}(h:Rea T m W A):(∀x∈W,x<m)->∀x∈W,x∈A:=by
 induction h with
 |here W=>exact fun _ x hx=>hx
 | @step W V hn _ ih=>
  intro lt x hx
  refine ih (fun y hy=>ae.mp (aj.mp hy).1) x (aj.mpr ⟨ae.mpr (lt x hx),?_⟩)
  rw [aE.mpr hx]
  rfl
def Bg(T:List (List Bool))(m a o:Nat):Prop:=∀S:Nat->Prop,Md T m S->S a->S o->∀x<m,S x
theorem x1v{T:List (List Bool)}{m:Nat}(F:Full m T)(hs:Stg T (ad m)){A B:Nat->Prop}(hA:Md T m A)(hB:Md T m B){a:Nat}(ha:a<m)(aA:A a)(aB:B a)(pA:∃y<m,¬A y)(pB:∃y<m,¬B y):Md T m (fun x=>A x∨B x)∧∃y<m,¬(A y∨B y):=by
 refine⟨fun o ho hn=>?_,?_⟩
 ·have nA:¬A o:=fun z=>hn (.inl z)
  have nB:¬B o:=fun z=>hn (.inr z)
  rcases hA o ho nA with p | p
  ·rcases hB o ho nB with q | q
   ·exact .inl fun x hx h=>h.elim (p x hx) (q x hx)
   ·have:=p a ha aA
    rw [q a ha aB]at this
    cases this
  ·rcases hB o ho nB with q | q
   ·have:=q a ha aB
    rw [p a ha aA]at this
    cases this
   ·exact .inr fun x hx h=>h.elim (p x hx) (q x hx)
 ·apply Classical.byContradiction
  intro hn
  have cov:∀y<m,A y∨B y:=fun y hy=>Classical.byContradiction fun z=>hn ⟨y,hy,z⟩
  have side:∀(A B:Nat->Prop),Md T m A->Md T m B->(∀y<m,A y∨B y)->∀x<m,∀y<m,¬B x->¬A y->at2 T x y=true->False:=fun A B hA hB cov x hx y hy nx ny hxy=>by
   have Ax:A x:=(cov x hx).resolve_right nx
   have By:B y:=(cov y hy).resolve_left ny
   have yA:∀z<m,A z->at2 T y z=false:=by
    rcases hA y hy ny with p | p
    ·exact absurd (p x hx Ax) fun w=>F.no hx hy hxy w
    ·exact p
   have Ay:∀z<m,A z->at2 T z y=true:=fun z hz az=>by
    have hne:z≠y:=fun e=>ny (e ▸ az)
    rcases F.tot hz hy hne with w | w
    ·exact w
    ·rw [yA z hz az]at w;cases w
   have all:∀z<m,¬B z->∀w<m,B w->at2 T z w=true:=fun z hz nz w hw bw=>by
    have az:A z:=(cov z hz).resolve_right nz
    rcases hB z hz nz with p | p
    ·exact p w hw bw
    ·have:=Ay z hz az
     rw [p y hy By]at this
     cases this
   obtain⟨u,hu,v,hv,bu,nv,huv⟩:=hs B ⟨y,ae.mpr hy,By⟩ ⟨x,ae.mpr hx,nx⟩
   have hu:=ae.mp hu
   have hv:=ae.mp hv
   exact F.no hu hv huv (all v hv nv u hu bu)
  obtain⟨y,hy,ny⟩:=pA
  obtain⟨x,hx,nx⟩:=pB
  have hne:x≠y:=fun e=>by
   subst e
   rcases cov x hx with q | q
   ·exact ny q
   ·exact nx q
  rcases F.tot hx hy hne with w | w
  ·exact side A B hA hB cov x hx y hy nx ny w
  ·exact side B A hB hA (fun z hz=>(cov z hz).symm) y hy x hx ny nx w
theorem md_one{T:List (List Bool)}{m a:Nat}:Md T m fun x=>x=a:=fun o _ _=>by
 cases h:at2 T o a with
 |true=>exact .inl fun x _ e=>by rw [e];exact h
 |false=>exact .inr fun x _ e=>by rw [e];exact h
def Cg(T:List (List Bool))(m a x:Nat):Prop:=x<m∧(x=a∨¬Bg T m a x)
theorem x3r{T:List (List Bool)}{m:Nat}(F:Full m T)(hs:Stg T (ad m))(h2:2≤m){a:Nat}(ha:a<m):Md T m (Cg T m a)∧∃y<m,¬Cg T m a y:=by
 have ex:∀l:List Nat,∃S:Nat->Prop,Md T m S∧S a∧(∃y<m,¬S y)∧∀o∈l,o<m->¬Bg T m a o->S o:=fun l=>by
  induction l with
  |nil=>
   refine⟨fun x=>x=a,md_one,rfl,?_,fun o ho=>nomatch ho⟩
   by_cases h0:a=0
   ·exact⟨1,by omega,by omega⟩
   ·exact⟨0,by omega,fun e=>h0 e.symm⟩
  |cons o l ih=>
   obtain⟨S,m1,s1,p1,all⟩:=ih
   by_cases ho:o<m∧¬Bg T m a o
   ·have:∃S':Nat->Prop,Md T m S'∧S' a∧S' o∧∃x<m,¬S' x:=Classical.byContradiction fun hn=>ho.2 fun S' q1 q2 q3 x hx=>Classical.byContradiction fun nx=>hn ⟨S',q1,q2,q3,x,hx,nx⟩
    obtain⟨S',q1,q2,q3,q4⟩:=this
    obtain⟨u1,u2⟩:=x1v F hs m1 q1 ha s1 q2 p1 q4
    refine⟨fun x=>S x∨S' x,u1,.inl s1,u2,fun z hz hzm hb=>?_⟩
    rcases ai.mp hz with e | e
    ·rw [e];exact .inr q3
    ·exact .inl (all z e hzm hb)
   ·refine⟨S,m1,s1,p1,fun z hz hzm hb=>?_⟩
    rcases ai.mp hz with e | e
    ·exact absurd ⟨e ▸ hzm,e ▸ hb⟩ ho
    ·exact all z e hzm hb
 obtain⟨S,m1,s1,⟨y,hy,ny⟩,all⟩:=ex (ad m)
 have iff:∀x<m,Cg T m a x↔S x:=fun x hx=>by
  constructor
  ·rintro⟨_,h | h⟩
   ·rw [h];exact s1
   ·exact all x (ae.mpr hx) hx h
  ·intro h
   exact⟨hx,.inr fun hb=>ny (hb S m1 s1 h y hy)⟩
 refine⟨fun o ho hn=>?_,y,hy,fun z=>ny ((iff y hy).mp z)⟩
 rcases m1 o ho fun z=>hn ((iff o ho).mpr z)with p | p
 ·exact .inl fun x hx h=>p x hx ((iff x hx).mp h)
 ·exact .inr fun x hx h=>p x hx ((iff x hx).mp h)
theorem y8q{T:List (List Bool)}{m:Nat}(F:Full m T)(hs:Stg T (ad m))(h2:2≤m){a x:Nat}(ha:a<m)(h:Cg T m a x){z:Nat}(hz:Cg T m a z):Cg T m x z:=by
 obtain⟨m1,y,hy,ny⟩:=x3r F hs h2 ha
 exact⟨hz.1,.inr fun hb=>ny (hb _ m1 h hz y hy)⟩
theorem z7B{T:List (List Bool)}{m:Nat}(F:Full m T)(hs:Stg T (ad m))(h2:2≤m){a x:Nat}(ha:a<m)(h:Cg T m a x)(z:Nat):Cg T m a z↔Cg T m x z:=by
 have ha':Cg T m a a:=⟨ha,.inl rfl⟩
 exact⟨fun q=>y8q F hs h2 ha h q,fun q=>y8q F hs h2 h.1 (y8q F hs h2 ha h ha') q⟩
theorem y6h(o:List Nat):o.map nD=(o.map fun n=>((n:Nat):Int)).map D.int:=by rw [aL];rfl
theorem okP_lls(L:List (List Nat)):okP (.lst (L.map thD))=true:=by
 have h1:∀L:List (List Nat),PyData.canLayAll0 (z4W (L.map thD))=true:=fun L=>by
  induction L with
  |nil=>rfl
  |cons r L ih=>
   show(PyData.canLayAll0 (z4W (r.map nD))&&PyData.canLayAll0 (z4W (L.map thD)))=true
   rw [ih,y6h,z9X]
   rfl
 have h2:∀L:List (List Nat),PyData.depthAll (z4W (L.map thD))≤1:=fun L=>by
  induction L with
  |nil=>decide
  |cons r L ih=>
   show max (PyData.depthAll (z4W (r.map nD))+1) (PyData.depthAll (z4W (L.map thD)))≤1
   rw [y6h,z9S]
   omega
 unfold okP
 rw [aH,decide_eq_true_eq]
 refine⟨h1 L,?_⟩
 show PyData.depthAll (z4W (L.map thD))+1≤60
 have:=h2 L
 omega
theorem x2u:∀{a b:List Nat},PyData.eqvAll (z4W (a.map nD)) (z4W (b.map nD))=decide (a=b)
 |[],[]=>by simp;rfl
 |[],_::_=>by simp;rfl
 |_::_,[]=>by simp;rfl
 |x::a,y::b=>by
  have ih:=x2u (a:=a) (b:=b)
  show(((x:Int)==(y:Int))&&PyData.eqvAll (z4W (a.map nD)) (z4W (b.map nD)))=_
  rw [ih]
  by_cases h:x=y
  ·subst h;simp
  ·have h1:((x:Int)==(y:Int))=false:=by rw [beq_eq_false_iff_ne];omega
   have h2:¬(x::a=y::b):=fun e=>h (List.cons.inj e).1
   rw [h1,decide_eq_false h2]
   rfl
theorem mem_lls{w:List Nat}{L:List (List Nat)}:y6Q (thD w) (llD L)=some (L.contains w):=by
 unfold llD y6Q
 show(if(okP (thD w)&&okP (.lst (L.map thD)))=true then _ else none)=_
 rw [okP_lls,x2M]
 show some ((L.map thD).any fun y=>PyData.eqv (toP y) (toP (thD w)))=_
 congr 1
 rw [cy,cZ]
 congr 1
 funext x
 show PyData.eqvAll (z4W (x.map nD)) (z4W (w.map nD))=(w==x)
 rw [x2u]
 by_cases h:x=w
 ·subst h;simp
 ·have:¬w=x:=fun e=>h e.symm
  simp [h,this]
theorem y5U{w:List Nat}{L:List (List Nat)}:y6L (thD w) (llD L)=some (.bl (!L.contains w)):=by
 unfold y6L
 rw [mem_lls]
 rfl
theorem x0h{m:Nat}{T:List (List Bool)}(sq:Sq m T)(hm:m≤8){a o:Nat}(ha:a<m)(ho:o<m):∃b,z1k [z0A T,.int (a:Int),.int (o:Int)]=some (.bl b)∧(b=true↔Bg T m a o):=by
 have lt:∀x∈[a,o],x<m:=fun x hx=>by
  rcases ai.mp hx with z | z
  ·rw [z];exact ha
  ·rw [ax.mp z];exact ho
 obtain⟨_,e,A,rfl,hr,hp,R⟩:=y4Y sq hm (th:=[a,o]) lt (by simp)
 refine⟨decide ((A.length:Int)=(m:Int)),z0r rfl ?_,?_⟩
 ·have t2:D.lst [.int (a:Int),.int (o:Int)]=thD [a,o]:=rfl
  simp! only [z2O,t2,e,z8o,z1d,sq.1,z0b]
 ·rw [decide_eq_true_iff]
  constructor
  ·intro hl S hS sa so x hx
   have hx:=y6x R.nd R.lt (by omega) x hx
   refine hr.least hS (fun y hy=>?_) x hx
   have:=(z8x lt).mp hy
   refine⟨lt y this,?_⟩
   rcases ai.mp this with z | z
   ·rw [z];exact sa
   ·rw [ax.mp z];exact so
  ·intro h
   have w0lt:∀x∈w0 m [a,o],x<m:=fun x hx=>lt x ((z8x lt).mp hx)
   have:=h (fun x=>x∈A) ((y0G R.lt).mp (tog_of hp)) (hr.more w0lt a ((z8x lt).mpr (by simp))) (hr.more w0lt o ((z8x lt).mpr (by simp)))
   have h1:=List.Nodup.length_le_of_subset (l₂:=A) (br (n:=m)) fun x hx=>this x (ae.mp hx)
   rw [aW]at h1
   have:=R.len
   omega
open Classical in
noncomputable def gwL(T:List (List Bool))(m a:Nat):List Nat:=(ad m).filter fun o=>decide (Cg T m a o)
theorem gw_mem{T:List (List Bool)}{m a x:Nat}:x∈gwL T m a↔Cg T m a x:=by
 unfold gwL
 rw [aj,ae]
 constructor
 ·rintro⟨_,h⟩
  exact @of_decide_eq_true _ (Classical.propDecidable _) h
 ·intro h
  exact⟨h.1,@decide_eq_true _ (Classical.propDecidable _) h⟩
theorem gw_ris{T:List (List Bool)}{m a:Nat}:Ris m (gwL T m a):=ris_fil
open Classical in
theorem y1X{m:Nat}{T:List (List Bool)}(sq:Sq m T)(hm:m≤8){a:Nat}(ha:a<m):z1y [z0A T,.int (a:Int)]=some (thD (gwL T m a)):=by
 refine z0r rfl ?_
 have cx:z2c (some (z4p 0 m)) (z2e (y5F (z0M (d2 eqD (z0d 2) (z0d 1))) (z6g (z1r (z0i z1k [z0d 0,z0d 1,z0d 2])))) (z0d 2) [some (z0A T),some (.int (a:Int))])=some ((gwL T m a).map nD):=by
  rw [z2G]
  refine y2W (fun o=>decide (Cg T m a o)) nD (by simp;omega) (fun o ho=>?_) fun o _ _=>by simp! only []
  have ho:=ae.mp ho
  obtain⟨b,e,hb⟩:=x0h sq hm ha ho
  simp! only [nD,e]
  congr 1
  rw [Bool.eq_iff_iff,dD,decide_eq_true_iff,decide_eq_true_iff]
  unfold Cg
  constructor
  ·rintro (h | h)
   ·exact⟨ho,.inl (by omega)⟩
   ·exact⟨ho,.inr fun z=>by rw [hb.mpr z]at h;cases h⟩
  ·rintro⟨_,h | h⟩
   ·exact .inl (by omega)
   ·refine .inr ?_
    cases b with
    |false=>rfl
    |true=>exact absurd (hb.mp rfl) h
 simp! only [z2k,z1d,sq.1,z1m (show m≤1000000 by omega),cx,z2J,z0b]
 rfl
def Mn(T:List (List Bool))(m t:Nat):Prop:=∀s<t,¬Cg T m t s
open Classical in
noncomputable def ptL(T:List (List Bool))(m k:Nat):List (List Nat):=((ad k).filter fun t=>decide (Mn T m t)).map (gwL T m)
theorem pt_mem{T:List (List Bool)}{m k:Nat}{w:List Nat}:w∈ptL T m k↔∃t<k,Mn T m t∧w=gwL T m t:=by
 unfold ptL
 rw [aK]
 constructor
 ·rintro⟨t,ht,rfl⟩
  obtain⟨h1,h2⟩:=aj.mp ht
  exact⟨t,ae.mp h1,@of_decide_eq_true _ (Classical.propDecidable _) h2,rfl⟩
 ·rintro⟨t,ht,h,rfl⟩
  exact⟨t,aj.mpr ⟨ae.mpr ht,@decide_eq_true _ (Classical.propDecidable _) h⟩,rfl⟩
theorem gw_eq{T:List (List Bool)}{m a b:Nat}(h:∀z,Cg T m a z↔Cg T m b z):gwL T m a=gwL T m b:=by
 unfold gwL
 exact bR fun x _=>by rw [Bool.eq_iff_iff,@decide_eq_true_iff _ (Classical.propDecidable _),@decide_eq_true_iff _ (Classical.propDecidable _)];exact h x
theorem mn_of{T:List (List Bool)}{m:Nat}(F:Full m T)(hs:Stg T (ad m))(h2:2≤m):∀{t:Nat},t<m->∃s≤t,Mn T m s∧Cg T m t s:=fun {t}=>by
 induction t using Nat.strongRecOn with
 |_ t ih=>
  intro ht
  by_cases hn:Mn T m t
  ·exact⟨t,ao _,hn,ht,.inl rfl⟩
  ·have:∃s<t,Cg T m t s:=Classical.byContradiction fun z=>hn fun s hs hc=>z ⟨s,hs,hc⟩
   obtain⟨s,hst,hc⟩:=this
   obtain⟨u,hu,mu,cu⟩:=ih s hst hc.1
   exact⟨u,by omega,mu,(z7B F hs h2 ht hc u).mpr cu⟩
theorem x1D{T:List (List Bool)}{m:Nat}(F:Full m T)(hs:Stg T (ad m))(h2:2≤m){k:Nat}(hk:k<m):gwL T m k∈ptL T m k↔¬Mn T m k:=by
 rw [pt_mem]
 constructor
 ·rintro⟨t,ht,mt,e⟩ hn
  refine hn t ht ?_
  have:t∈gwL T m t:=gw_mem.mpr ⟨by omega,.inl rfl⟩
  rw [←e]at this
  exact gw_mem.mp this
 ·intro hn
  obtain⟨s,hs',ms,cs⟩:=mn_of F hs h2 hk
  have hlt:s<k:=by
   by_cases h:s=k
   ·rw [h]at ms;exact absurd ms hn
   ·omega
  exact⟨s,hlt,ms,gw_eq (z7B F hs h2 hk cs)⟩
open Classical in
theorem y6m{T:List (List Bool)}{m k:Nat}:ptL T m (k+1)=ptL T m k++if Mn T m k then [gwL T m k] else []:=by
 unfold ptL
 rw [b7,dL,aI,bL,List.filter_nil]
 by_cases h:Mn T m k
 ·rw [if_pos h,if_pos (decide_eq_true h)];rfl
 ·rw [if_neg h,if_neg (by rw [decide_eq_false h];exact ar)];rfl
theorem pt_len{T:List (List Bool)}{m k:Nat}:(ptL T m k).length≤k:=by
 unfold ptL
 rw [am]
 exact ba (bE _ _) (by simp)
theorem y9K{m:Nat}{T:List (List Bool)}(F:Full m T)(hm:m≤8)(h0:0<m)(hs:2≤m->Stg T (ad m))(hr:(rgL T m).length≤1):z5A [z0A T]=some (llD (if 2≤m then ptL T m m else [[0]])):=by
 refine z0r rfl ?_
 have re:=y3a F.sq (show m≤60 by omega)
 have ll:z1z [.lst ((rgL T m).map thD)]=some (.int ((rgL T m).length:Int)):=by
  show some (D.int (((rgL T m).map thD).length:Int))=_
  rw [am]
 have d1:decide (((rgL T m).length:Int)>1)=false:=decide_eq_false (by omega)
 obtain⟨Lr,hLr⟩:∃L,L=D.lst ((rgL T m).map thD):=⟨_,rfl⟩
 rw [←hLr]at re ll
 have nl:D.lst []=llD []:=rfl
 simp! only [z9s,re,ll,d1,z4i,nl,z1d,F.sq.1,z1m (show m≤1000000 by omega)]
 refine z0v (I:=fun s=>∃o3 o4,s=[some (.sh (z0A T)),some (.ow Lr),some (.ow (llD (if 2≤m then ptL T m m else [[0]]))),o3,o4]) ?_ ?_
 ·refine z3j (fun k s=>∃o3 o4,s=[some (.sh (z0A T)),some (.ow Lr),some (.ow (llD (if 2≤m then ptL T m k else if k=0 then [] else [[0]]))),o3,o4]) ⟨_,_,by
   have:(if 2≤m then ptL T m 0 else if 0=0 then [] else [[0]])=[]:=by split <;> rfl
   rw [this]⟩ ?_ fun s ⟨o3,o4,e⟩=>⟨s,rfl,o3,o4,by rw [e,if_neg (show ¬m=0 by omega)]⟩
  rintro k hk s ⟨o3,o4,rfl⟩
  have ge:=y1X F.sq hm hk
  have key:∃(L L':List (List Nat)) (b:Bool),(if 2≤m then ptL T m k else if k=0 then [] else [[0]])=L∧(if 2≤m then ptL T m (k+1)else if k+1=0 then [] else [[0]])=L'∧(!L.contains (gwL T m k))=b∧(b=true->L'=L++[gwL T m k])∧(b=false->L'=L)∧L.length≤1000:=by
   by_cases h2:2≤m
   ·rw [if_pos h2,if_pos h2]
    refine⟨_,_,_,rfl,rfl,rfl,fun hb=>?_,fun hb=>?_,ba pt_len (by omega)⟩
    ·have hn:gwL T m k∉ptL T m k:=fun z=>by rw [aE.mpr z]at hb;cases hb
     have hmn:Mn T m k:=Classical.byContradiction fun z=>hn ((x1D F (hs h2) h2 hk).mpr z)
     rw [y6m,if_pos hmn]
    ·have hin:gwL T m k∈ptL T m k:=by
      rw [←aE]
      simpa using hb
     rw [y6m,if_neg ((x1D F (hs h2) h2 hk).mp hin),aP]
   ·rw [if_neg h2,if_neg h2]
    have hk0:k=0:=by omega
    have hm1:m=1:=by omega
    subst hk0
    subst hm1
    refine⟨_,_,_,rfl,rfl,rfl,fun _=>?_,fun hb=>?_,by simp⟩
    ·have:gwL T 1 0=[0]:=by
      have h1:∀x,x∈gwL T 1 0↔x=0:=fun x=>by
       rw [gw_mem]
       exact⟨fun h=>by have:=h.1;omega,fun h=>⟨by omega,.inl h⟩⟩
      have up:=(gw_ris (T:=T) (m:=1) (a:=0)).up
      have ln:=(gw_ris (T:=T) (m:=1) (a:=0)).len
      cases hg:gwL T 1 0 with
      |nil=>have:=(h1 0).mpr rfl;rw [hg]at this;cases this
      |cons x r=>
       rw [hg]at ln
       have:r=[]:=bP.mp (by rw [aY]at ln;omega)
       have hx:x=0:=(h1 x).mp (by rw [hg];exact ah)
       rw [this,hx]
     rw [this]
     rfl
    ·cases hb
  obtain⟨L,L',b,e1,e2,e3,h1,h2,hl⟩:=key
  rw [e1,e2]
  have ap:=ap_map (enc:=thD) (xs:=L) (x:=gwL T m k) (i:=2) (j:=4) (s:=[some (.sh (z0A T)),some (.ow Lr),some (.ow (llD L)),some (.sh (.int (k:Int))),some (.ow (thD (gwL T m k)))]) (by omega)
  have ap:apX (some (thD (gwL T m k))) (some (llD L)) 2 4 [some (.sh (z0A T)),some (.ow Lr),some (.ow (llD L)),some (.sh (.int (k:Int))),some (.ow (thD (gwL T m k)))]=_:=ap
  have lL:∀Z:List (List Nat),D.lst (Z.map thD)=llD Z:=fun _=>rfl
  cases b with
  |true=>
   rw [h1 rfl]
   simp! only [bW,ge,y5U,e3,ap,lL,z0b]
   exact⟨_,_,rfl⟩
  |false=>
   rw [h2 rfl]
   simp! only [bW,ge,y5U,e3,z0b]
   exact⟨_,_,rfl⟩
 ·rintro s ⟨o3,o4,rfl⟩
  simp! only [z0b]
theorem y5j{m:Nat}{T:List (List Bool)}(F:Full m T)(hm:m≤8)(hr:1<(rgL T m).length):z5A [z0A T]=some (llD (rgL T m)):=by
 refine z0r rfl ?_
 have re:=y3a F.sq (show m≤60 by omega)
 have ll:z1z [llD (rgL T m)]=some (.int ((rgL T m).length:Int)):=by
  show some (D.int (((rgL T m).map thD).length:Int))=_
  rw [am]
 have re:z7t [z0A T]=some (llD (rgL T m)):=re
 have d1:decide (((rgL T m).length:Int)>1)=true:=decide_eq_true (by omega)
 simp! only [z9s,re,ll,d1,z0b]
theorem cls_up{m:Nat}{f:Nat->Nat}{a:Nat}:(cls m f a).Pairwise (· < ·):=List.Pairwise.filter _ bG
theorem cls_lt{m:Nat}{f:Nat->Nat}{a x:Nat}(h:x∈cls m f a):x<m:=ae.mp (aj.mp h).1
theorem cls_f{m:Nat}{f:Nat->Nat}{a x:Nat}(h:x∈cls m f a):f x=f a:=of_decide_eq_true (aj.mp h).2
theorem y3e{m:Nat}{f:Nat->Nat}{a:Nat}(h:a<m):a∈cls m f a:=aj.mpr ⟨ae.mpr h,decide_eq_true rfl⟩
theorem Rgs.perm{m:Nat}{f:Nat->Nat}{L:List (List Nat)}(h:Rgs m f L):L.flatten.Perm (ad m):=by
 refine(bg ?_ br).mpr fun x=>?_
 ·unfold List.Nodup
  rw [cF]
  refine⟨fun r hr=>?_,h.pw.imp fun {r s} q=>?_⟩
  ·obtain⟨a,_,rfl⟩:=(h.mem r).mp hr
   exact cls_up.imp fun h=>aC h
  ·intro x hx y hy e
   subst e
   have:=q.2.2 x hx x hy
   omega
 ·rw [c4,ae]
  constructor
  ·rintro⟨r,hr,hx⟩
   obtain⟨a,_,rfl⟩:=(h.mem r).mp hr
   exact cls_lt hx
  ·intro hx
   exact⟨cls m f x,(h.mem _).mpr ⟨x,hx,rfl⟩,y3e hx⟩
theorem Rgs.cons{m:Nat}{f:Nat->Nat}{L:List (List Nat)}(h:Rgs m f L)(h0:0<m):∃r0 rest,L=r0::rest:=by
 have:cls m f 0∈L:=(h.mem _).mpr ⟨0,h0,rfl⟩
 cases L with
 |nil=>cases this
 |cons r s=>exact⟨r,s,rfl⟩
theorem perm_lt{o:List Nat}{m:Nat}(h:o.Perm (ad m)):∀x∈o,x<m:=fun _ hx=>ae.mp (h.mem_iff.mp hx)
theorem y3m{o:List Nat}{m:Nat}(h:o.Perm (ad m)):o.length=m:=by simpa using h.length_eq
theorem perm_nd{o:List Nat}{m:Nat}(h:o.Perm (ad m)):o.Nodup:=h.nodup_iff.mpr br
structure Gd(T:List (List Bool))(m:Nat)(L:List (List Nat)):Prop where
 ris:∀p∈L,Ris m p
 ne:∀p∈L,p≠[]
 tg:∀p∈L,togB T m p=true
 pm:L.flatten.Perm (ad m)
theorem Gd.len{T:List (List Bool)}{m:Nat}{L:List (List Nat)}(G:Gd T m L):L.length≤m:=by
 have h:∀M:List (List Nat),(∀p∈M,p≠[])->M.length≤M.flatten.length:=fun M=>by
  induction M with
  |nil=>exact fun _=>ao _
  |cons p M ih=>
   intro hne
   have:=ih fun q hq=>hne q (ag _ hq)
   have h1:=bS.mpr (hne p ah)
   rw [bQ,aF,aY]
   omega
 have:=h L G.ne
 rw [G.pm.length_eq,aW]at this
 exact this
theorem cls_md{m:Nat}{T:List (List Bool)}(F:Full m T){a:Nat}:Md T m fun x=>x∈cls m (fun a=>(rcL T m a).length) a:=fun o ho hn=>by
 have hne:(rcL T m o).length≠(rcL T m a).length:=fun e=>hn (aj.mpr ⟨ae.mpr ho,decide_eq_true e⟩)
 have fx:∀x,x∈cls m (fun a=>(rcL T m a).length) a->(rcL T m x).length=(rcL T m a).length:=fun x hx=>cls_f hx
 by_cases h:(rcL T m a).length<(rcL T m o).length
 ·exact .inl fun x hx hm=>y1c F ho hx (by rw [fx x hm];exact h)
 ·refine .inr fun x hx hm=>?_
  have:=y1c F hx ho (by rw [fx x hm];omega)
  cases e:at2 T o x with
  |false=>rfl
  |true=>exact absurd e fun w=>F.no hx ho this w
theorem x1L{m:Nat}{T:List (List Bool)}(F:Full m T):Gd T m (rgL T m):=by
 have G:=y7L (T:=T) (m:=m)
 have ris:∀p∈rgL T m,Ris m p:=fun p hp=>by
  obtain⟨a,ha,rfl⟩:=(G.mem p).mp hp
  exact ris_fil
 refine⟨ris,fun p hp=>?_,fun p hp=>?_,G.perm⟩
 ·obtain⟨a,ha,rfl⟩:=(G.mem p).mp hp
  exact cq (y3e ha)
 ·rw [y0G (ris p hp).lt]
  obtain⟨a,ha,rfl⟩:=(G.mem p).mp hp
  exact cls_md F
theorem stg_of{T:List (List Bool)}{P Q:List Nat}(h:Stg T P)(e:∀x,x∈P↔x∈Q):Stg T Q:=fun S ⟨x,hx,sx⟩ ⟨y,hy,sy⟩=>by
 obtain⟨u,hu,v,hv,q⟩:=h S ⟨x,(e x).mpr hx,sx⟩ ⟨y,(e y).mpr hy,sy⟩
 exact⟨u,(e u).mp hu,v,(e v).mp hv,q⟩
theorem x2b{m:Nat}{T:List (List Bool)}(F:Full m T)(hs:Stg T (ad m))(h2:2≤m):Gd T m (ptL T m m):=by
 have cs:=fun {t:Nat} (ht:t<m)=>x3r F hs h2 ht
 refine⟨fun p hp=>?_,fun p hp=>?_,fun p hp=>?_,?_⟩
 ·obtain⟨t,ht,mt,rfl⟩:=pt_mem.mp hp
  exact gw_ris
 ·obtain⟨t,ht,mt,rfl⟩:=pt_mem.mp hp
  exact cq (gw_mem.mpr ⟨ht,.inl rfl⟩)
 ·obtain⟨t,ht,mt,rfl⟩:=pt_mem.mp hp
  rw [y0G gw_ris.lt]
  have:=(cs ht).1
  intro o ho hn
  rcases this o ho (fun z=>hn (gw_mem.mpr z))with q | q
  ·exact .inl fun x hx h=>q x hx (gw_mem.mp h)
  ·exact .inr fun x hx h=>q x hx (gw_mem.mp h)
 ·refine(bg ?_ br).mpr fun x=>?_
  ·unfold List.Nodup
   rw [cF]
   refine⟨fun p hp=>?_,?_⟩
   ·obtain⟨t,ht,mt,rfl⟩:=pt_mem.mp hp
    exact gw_ris.nd
   ·unfold ptL
    rw [bF]
    refine List.Pairwise.imp_of_mem (fun {t u} ht hu htu=>?_) (List.Pairwise.filter _ (bG (n:=m)))
    obtain⟨ht1,ht2⟩:=aj.mp ht
    obtain⟨hu1,hu2⟩:=aj.mp hu
    have hu3:Mn T m u:=@of_decide_eq_true _ (Classical.propDecidable _) hu2
    have htm:=ae.mp ht1
    have hum:=ae.mp hu1
    intro x hx y hy e
    subst e
    have c1:=gw_mem.mp hx
    have c2:=gw_mem.mp hy
    refine hu3 t htu ?_
    have k1:=(z7B F hs h2 htm c1 t).mp ⟨htm,.inl rfl⟩
    exact(z7B F hs h2 hum c2 t).mpr k1
  ·rw [c4,ae]
   constructor
   ·rintro⟨p,hp,hx⟩
    obtain⟨t,ht,mt,rfl⟩:=pt_mem.mp hp
    exact gw_ris.lt x hx
   ·intro hx
    obtain⟨s,hs',ms,c⟩:=mn_of F hs h2 hx
    exact⟨gwL T m s,pt_mem.mpr ⟨s,by omega,ms,rfl⟩,gw_mem.mpr ((z7B F hs h2 hx c x).mp ⟨hx,.inl rfl⟩)⟩
theorem x1a{m:Nat}{T:List (List Bool)}(F:Full m T)(hm:m≤8)(h0:0<m):∃L,z5A [z0A T]=some (llD L)∧Gd T m L∧(1<(rgL T m).length->L=rgL T m):=by
 by_cases hr:1<(rgL T m).length
 ·exact⟨rgL T m,y5j F hm hr,x1L F,fun _=>rfl⟩
 ·have G:=y7L (T:=T) (m:=m)
  obtain⟨r0,rest,e⟩:=G.cons h0
  have er:rest=[]:=by
   cases rest with
   |nil=>rfl
   |cons r rest=>rw [e]at hr;simp at hr
  have hs:Stg T (ad m):=by
   obtain⟨a,ha,ea⟩:=(G.mem r0).mp (by rw [e];exact ah)
   refine stg_of (P:=r0) (by rw [ea];exact x0Q F) fun x=>?_
   have:=G.perm.mem_iff (a:=x)
   rw [e,er]at this
   simpa using this
  refine⟨_,y9K F hm h0 (fun _=>hs) (by omega),?_,fun z=>absurd z hr⟩
  by_cases h2:2≤m
  ·rw [if_pos h2]
   exact x2b F hs h2
  ·rw [if_neg h2]
   have:m=1:=by omega
   subst this
   refine⟨fun p hp=>?_,fun p hp=>?_,fun p hp=>?_,?_⟩
   ·rw [ax.mp hp]
    exact⟨by simp,fun x hx=>by rw [ax.mp hx];omega⟩
   ·rw [ax.mp hp];simp
   ·rw [ax.mp hp];exact tog_one
   ·exact List.Perm.refl _
theorem y2h{x:Int}{m:Nat}(h:0≤x∧x<(m:Int)):z4j [.int x,.int (m:Int)]=some (.bl true):=by
 refine z0r rfl ?_
 have c:chO leI ltI (some (.int 0)) (some (.int x)) (some (.int (m:Int)))=some (.bl (true&&true)):=x0l (by rw [ea_le,decide_eq_true h.1]) (by rw [ea_lt,decide_eq_true h.2])
 simp_all! only [z5G,c,z0b]
theorem x0z{m:Nat}(hm:m≤1000){o:List Nat}(hp:o.Perm (ad m)):z1g [thD o,.int (m:Int)]=some (.bl true):=by
 refine z0r rfl ?_
 have hl:decide ((o.length:Int)=(m:Int))=true:=decide_eq_true (by rw [y3m hp])
 have t0:D.dct [] []=y2s []:=rfl
 simp_all! only [z1H,z8o,hl,t0,z3u]
 refine z0v (I:=fun s=>∃p o3,s=[some (.sh (thD o)),some (.sh (.int (m:Int))),some (.ow (y2s p)),o3]) ?_ ?_
 ·refine z2I (fun pre s=>∃o3,s=[some (.sh (thD o)),some (.sh (.int (m:Int))),some (.ow (y2s (pre.map fun n=>((n:Nat):Int)))),o3]) ⟨none,rfl⟩ ?_ fun s ⟨o3,z⟩=>⟨s,rfl,_,o3,z⟩
  rintro pre x post e s ⟨o3,rfl⟩
  have hx:x∈o:=by rw [e];simp
  have hxm:=perm_lt hp x hx
  have it:=y2h (x:=(x:Int)) (m:=m) ⟨by omega,by omega⟩
  have nd:=perm_nd hp
  rw [e,bf]at nd
  have hnp:(x:Int)∉pre.map fun n=>((n:Nat):Int):=fun z=>by
   obtain⟨y,hy,hyx⟩:=aK.mp z
   have:y=x:=by omega
   subst this
   exact nd.2.2 y hy y ah rfl
  have hpl:(pre.map fun n=>((n:Nat):Int)).length≤1000000:=by
   have h1:=y3m hp
   rw [e,aF]at h1
   rw [am]
   omega
  simp_all! only [nD,it,y9c hnp,x2h hnp hpl,z0b]
  rw [aI]
  exact⟨_,rfl⟩
 ·rintro s ⟨p,o3,rfl⟩
  simp! only [z0b]
section
variable{T:List (List Bool)}{m:Nat}{th:List Nat}
theorem stog_eq(sq:Sq m T)(hm:m≤900)(hl:th.length≤900)(h:∀x∈th,x<m):z0R [z0A T,thD th]=some (.bl (togB T m th)):=by
 refine z0r rfl ?_
 simp! only [z1E,z8s sq hm hl h,z8o,z0b]
 congr 2
 unfold togB prt
 by_cases e:((ad m).all fun o=>!brk T o th)=true
 ·rw [e]
  have:(ad m).filter (fun o=>brk T o th)=[]:=by
   rw [de]
   intro o ho hb
   have:=aV.mp e o ho
   rw [hb]at this
   cases this
  rw [this]
  rfl
 ·rw [c5]at e
  rw [e]
  apply decide_eq_false
  intro z
  have z':((ad m).filter fun o=>brk T o th)=[]:=dZ (by omega)
  rw [de]at z'
  have:((ad m).all fun o=>!brk T o th)=true:=aV.mpr fun o ho=>by
   have:=z' o ho
   simpa using this
  rw [this]at e
  cases e
end
theorem y9P{r:List Bool}{th:List Nat}(hl:th.length≤1000)(h:∀x∈th,x<r.length):z5k [z2v r,thD th]=some (z2v (th.map fun j=>r.getD j false)):=by
 refine z0r rfl ?_
 have hl':(th.map nD).length≤1000000:=by rw [am];omega
 have hc:z1p (z2e z3x (d2 ixD (z0d 0) (z0d 2)) [some (z2v r),some (thD th)]) (th.map nD)=some ((th.map fun j=>r.getD j false).map bD):=by
  rw [aL]
  exact z4e (fun j:Nat=>bD (r.getD j false)) fun j hj=>by simp! only [nD,z9w (h j hj),bD]
 have fl:=z1T (z1c (th.map fun j=>r.getD j false))
 simp! only [z9F,z3u,z4P hl',hc,fl,z0b]
 rfl
theorem y2R{n:Nat}{T:List (List Bool)}(sq:Sq n T){th:List Nat}(hl:th.length≤1000)(h:∀x∈th,x<n):z5Q [z0A T,thD th]=some (z0A (z0x th (at2 T))):=by
 refine z0r rfl ?_
 have hl':(th.map nD).length≤1000000:=by rw [am];omega
 have hc:z1p (z2e z3x (z0i z5k [d2 ixD (z0d 0) (z0d 2),z0d 1]) [some (z0A T),some (thD th)]) (th.map nD)=some ((z0x th (at2 T)).map z2v):=by
  unfold z0x
  rw [aL]
  exact z4e (fun i:Nat=>z2v (th.map fun j=>at2 T i j)) fun i hi=>by
   have p:=y9P (r:=T.getD i []) (th:=th) hl (fun x hx=>by rw [sq.len (h i hi)];exact h x hx)
   simp! only [nD,z9V (show i<T.length by rw [sq.1];exact h i hi),p]
   rfl
 simp! only [y8n,z3u,z4P hl',hc,z0b]
 rfl
theorem len_lls{L:List (List Nat)}:z1z [llD L]=some (.int (L.length:Int)):=by
 show z1z [.lst (L.map thD)]=_
 exact z6Q
theorem y2T{L:List (List Nat)}:y4W (llD L)=some (L.map thD):=(rfl)
def ouT(T:List (List Bool))(L:List (List Nat)):List (List Bool):=z0x (L.map fun p=>p.headD 0) (at2 T)
theorem st_intP{o:List Int}{k:Nat}{x:Int}(h:k<o.length):st0V (some (z1B o)) (some (.int (k:Int))) (some (.int x))=some (z1B (o.set k x)):=by
 show(ixN (o.map D.int).length (k:Int)).map (fun j=>D.lst ((o.map D.int).set j (.int x)))=_
 rw [x3a (by simpa using h),bH,←dN]
 rfl
section
variable{T:List (List Bool)}{m:Nat}{L:List (List Nat)}
theorem Gd.lt(G:Gd T m L){p:List Nat}(hp:p∈L):∀x∈p,x<m:=(G.ris p hp).lt
theorem y5b(G:Gd T m L)(hm:m≤8):∃xs:List Int,xs.length=m∧z2j [llD L,.int (m:Int)]=some (.val (z1B xs)):=by
 suffices h:hol (z2j [llD L,.int (m:Int)]) fun d=>∃xs:List Int,xs.length=m∧d = .val (z1B xs) by
  obtain⟨_,e,xs,hl,rfl⟩:=h
  exact⟨xs,hl,e⟩
 have hl:=G.len
 have key:hol (z3e ([llD L,.int (m:Int)].map (fun d=>some (.sh d))++ak 5 none)) fun o=>∃xs:List Int,xs.length=m∧o = .rt (z1B xs):=by
  simp! only [z3e,z4i,x2I,y2T]
  refine z0v (I:=fun s=>∃o3,s=[some (.sh (llD L)),some (.sh (.int (m:Int))),some (.ow (thD L.flatten)),o3,none,none,none]) (z2I (enc:=thD) (xs:=L) (fun pre s=>∃o3,s=[some (.sh (llD L)),some (.sh (.int (m:Int))),some (.ow (thD pre.flatten)),o3,none,none,none]) ⟨_,rfl⟩ ?_ fun s z=>⟨s,rfl,z⟩) ?_
  ·rintro pre p post e s ⟨o3,rfl⟩
   have hp:p∈L:=by rw [e];simp
   have hpl:=(G.ris p hp).len
   have z0:decide ((p.length:Int)=0)=false:=decide_eq_false fun z=>G.ne p hp (bP.mp (by omega))
   have fl:pre.flatten.length≤m:=by
    have:=G.pm.length_eq
    rw [e,List.flatten_append,aF,aW]at this
    omega
   have ex:x0A (some (thD pre.flatten)) (some (thD p))=some (thD (pre.flatten++p)):=by
    show x0A (some (.lst (pre.flatten.map nD))) (some (.lst (p.map nD)))=_
    rw [eo_extD (z8f _) (by rw [am,am];omega),←aI]
    rfl
   have ef:(pre++[p]).flatten=pre.flatten++p:=by simp
   rw [ef]
   obtain⟨W,hW⟩:∃W,W=pre.flatten++p:=⟨_,rfl⟩
   rw [←hW]at ex ⊢
   simp_all! only [z8o,z0,ex,z0b]
   exact⟨_,rfl⟩
  ·rintro s ⟨o3,rfl⟩
   have te:=x0z (show m≤1000 by omega) G.pm
   have rp:repO (some (.lst [.int 0])) (some (.int (m:Int)))=some ((ak m (0:Int)).map .int):=by rw [y2m (by omega),dJ]
   have fl:z6d (some ((ak m (0:Int)).map D.int))=some ((ak m (0:Int)).map D.int):=z1T (z6p _)
   have li:D.lst ((ak m (0:Int)).map .int)=z1B (ak m 0):=rfl
   have en:y2E (llD L)=some (z0s 0 (L.map thD)):=rfl
   simp_all! only [te,rp,fl,li,en]
   refine z0v (I:=fun s=>∃(xs:List Int) (o2 o3 o5 o6:Option SD),s=[some (.sh (llD L)),some (.sh (.int (m:Int))),o2,o3,some (.ow (z1B xs)),o5,o6]∧xs.length=m) ?_ ?_
   ·refine z8E (enc:=thD) (xs:=L) (fun p s=>∃(xs:List Int) (o2 o3 o5 o6:Option SD),s=[some (.sh (llD L)),some (.sh (.int (m:Int))),o2,o3,some (.ow (z1B xs)),o5,o6]∧xs.length=m) ?_ (fun s z=>⟨s,rfl,z⟩) (pre:=[]) rfl ⟨_,_,_,_,_,rfl,by simp⟩
    rintro pre p post e s ⟨xs,o2,o3,o5,o6,rfl,hx⟩
    have hp:p∈L:=by rw [←cP L,e];simp
    simp! only [z3u]
    refine z2I (enc:=nD) (xs:=p) (fun _ s=>∃(xs:List Int) (o2 o6:Option SD),s=[some (.sh (llD L)),some (.sh (.int (m:Int))),o2,some (.sh (thD p)),some (.ow (z1B xs)),some (.sh (.int ((pre.length:Nat):Int))),o6]∧xs.length=m) ⟨_,_,_,rfl,hx⟩ ?_ ?_
    ·rintro pr t po e2 s ⟨xs,o2,o6,rfl,hx⟩
     have ht:t<m:=G.lt hp t (by rw [e2];simp)
     simp! only [nD,st_intP (show t<xs.length by omega),z0b]
     exact⟨_,_,_,rfl,by rw [cQ];exact hx⟩
    ·rintro s ⟨xs,o2,o6,rfl,hx⟩
     exact⟨_,_,_,_,_,rfl,hx⟩
   ·rintro s ⟨xs,o2,o3,o5,o6,rfl,hx⟩
    simp! only [z0b]
    exact⟨xs,hx,rfl⟩
 obtain⟨_,e,xs,hx,rfl⟩:=key
 exact⟨_,y7j rfl ⟨_,e,rfl⟩,xs,hx,rfl⟩
theorem y7w(F:Full m T)(G:Gd T m L)(hm:m≤8):z6s [z0A T,llD L]=some (.val (z0A (ouT T L))):=by
 refine y7j rfl ?_
 have hl:=G.len
 obtain⟨xs,_,pv⟩:=y5b G hm
 have c1:z2c (some (L.map thD)) (z2e z3x (z0i z0R [z0d 0,z0d 2]) [some (z0A T),some (llD L)])=some ((L.map fun _=>true).map bD):=by
  rw [aL]
  refine z1W (enc:=thD) (xs:=L) (fun _=>bD true) (by omega) fun p hp=>?_
  have hpl:=(G.ris p hp).len
  have st:=stog_eq F.sq (show m≤900 by omega) (show p.length≤900 by omega) (G.lt hp)
  rw [G.tg p hp]at st
  simp! only [st,bD]
 have c2:z2c (some (L.map thD)) (z2e z3x (d2 ixD (z0d 2) (dC (.int 0))) [some (z0A T),some (llD L)])=some ((L.map fun p=>p.headD 0).map nD):=by
  rw [aL]
  refine z1W (enc:=thD) (xs:=L) (fun p=>nD (p.headD 0)) (by omega) fun p hp=>?_
  have ix:ixD (thD p) (.int 0)=some (nD (p.headD 0)):=by
   cases h:p with
   |nil=>exact absurd h (G.ne p hp)
   |cons a r=>exact y5R
  simp! only [ix]
 have al:x1o [.lst ((L.map fun _=>true).map bD)]=some (.bl true):=by
  rw [y2Y]
  congr 2
  simp
 have pt:=y2R F.sq (th:=L.map fun p=>p.headD 0) (by rw [am];omega) fun x hx=>by
  obtain⟨p,hp,rfl⟩:=aK.mp hx
  cases h:p with
  |nil=>exact absurd h (G.ne p hp)
  |cons a r=>exact G.lt hp a (by rw [h];exact ah)
 simp_all! only [z8Z,z1d,F.sq.1,pv,y2T,c1,al,c2,z7p,pt,z0b]
 rfl
end
section
variable{O:List (List Bool)}{Is:List (List (List Bool))}{hs:List (Nat×Nat)}
theorem pc_mem{k t:Nat}:t∈pc hs k↔t<hs.length∧(hs.getD t (0,0)).1=k:=by
 unfold pc
 rw [aj,ae,decide_eq_true_eq]
theorem y5Y(M:Mix O Is hs):Gd (x0d O Is hs) hs.length (pcs O.length hs):=by
 have gt:∀t (h:t<hs.length),hs.getD t (0,0)=hs[t]:=fun t h=>by simp [aJ,h]
 have ris:∀p∈pcs O.length hs,Ris hs.length p:=fun p hp=>by
  obtain⟨k,_,rfl⟩:=aK.mp hp
  exact ris_fil
 refine⟨ris,fun p hp=>?_,fun p hp=>?_,?_⟩
 ·obtain⟨k,hk,rfl⟩:=aK.mp hp
  have hk:k<Is.length:=by rw [M.len];exact ae.mp hk
  have hz:((k,0):Nat×Nat)∈hs:=(M.prt.mem _).mpr ⟨hk,(M.prt.inn k hk).2⟩
  obtain⟨t,ht,e⟩:=bj.mp hz
  exact cq (pc_mem.mpr ⟨ht,by rw [gt t ht,e]⟩)
 ·rw [y0G (ris p hp).lt]
  obtain⟨k,hk,rfl⟩:=aK.mp hp
  intro o ho hn
  have ho1:(hs.getD o (0,0)).1≠k:=fun z=>hn (pc_mem.mpr ⟨ho,z⟩)
  have e:∀x,x<hs.length->x∈pc hs k->at2 (x0d O Is hs) o x=at2 O (hs.getD o (0,0)).1 k:=fun x hx hm=>by
   have hm:=(pc_mem.mp hm).2
   rw [gt x hx]at hm
   rw [gt o ho]at ho1 ⊢
   rw [z9l ho hx]
   unfold mb
   rw [if_neg (by rw [hm];exact ho1),hm]
  cases h:at2 O (hs.getD o (0,0)).1 k with
  |true=>exact .inl fun x hx hm=>by rw [e x hx hm,h]
  |false=>exact .inr fun x hx hm=>by rw [e x hx hm,h]
 ·refine(bg ?_ br).mpr fun x=>?_
  ·unfold List.Nodup
   rw [cF]
   refine⟨fun p hp=>(ris p hp).nd,?_⟩
   unfold pcs
   rw [bF]
   refine(br (n:=O.length)).imp fun {k j} hkj x hx y hy e=>?_
   subst e
   exact hkj ((pc_mem.mp hx).2.symm.trans (pc_mem.mp hy).2)
  ·rw [c4,ae]
   constructor
   ·rintro⟨p,hp,hx⟩
    exact(ris p hp).lt x hx
   ·intro hx
    have h1:=(M.prt.mem hs[x]).mp (aR hx)
    refine⟨pc hs hs[x].1,aK.mpr ⟨_,ae.mpr (by rw [←M.len];exact h1.1),rfl⟩,pc_mem.mpr ⟨hx,by rw [gt x hx]⟩⟩
end
section
variable{T:List (List Bool)}{m:Nat}{L:List (List Nat)}
def pk(L:List (List Nat))(k:Nat):List Nat:=L.getD k []
theorem z9e{k:Nat}(h:k<L.length):pk L k∈L:=by
 unfold pk
 rw [au,ac h]
 exact aR h
theorem Gd.has(G:Gd T m L){x:Nat}(hx:x<m):∃k,k<L.length∧x∈pk L k:=by
 obtain⟨p,hp,h⟩:=c4.mp (G.pm.mem_iff.mpr (ae.mpr hx))
 obtain⟨k,hk,rfl⟩:=bj.mp hp
 refine⟨k,hk,?_⟩
 unfold pk
 rw [au,ac hk]
 exact h
theorem Gd.only(G:Gd T m L){k j x:Nat}(hk:k<L.length)(hj:j<L.length)(h1:x∈pk L k)(h2:x∈pk L j):k=j:=by
 have nd:L.flatten.Nodup:=G.pm.nodup_iff.mpr br
 unfold List.Nodup at nd
 rw [cF]at nd
 have pw:=cj.mp nd.2
 unfold pk at h1 h2
 rw [au,ac hk]at h1
 rw [au,ac hj]at h2
 rcases dS k j with z | z | z
 ·exact absurd rfl (pw k j hk hj z x h1 x h2)
 ·exact z
 ·exact absurd rfl (pw j k hj hk z x h2 x h1)
theorem Gd.plt(G:Gd T m L){k x:Nat}(hk:k<L.length)(h:x∈pk L k):x<m:=G.lt (z9e hk) x h
theorem Gd.head(G:Gd T m L){k:Nat}(hk:k<L.length):(pk L k).headD 0∈pk L k:=by
 have:=G.ne _ (z9e hk)
 cases h:pk L k with
 |nil=>exact absurd h this
 |cons a r=>exact ah
theorem Gd.same(F:Full m T)(G:Gd T m L){k j:Nat}(hk:k<L.length)(hj:j<L.length)(hkj:k≠j){x x' y y':Nat}(hx:x∈pk L k)(hx':x'∈pk L k)(hy:y∈pk L j)(hy':y'∈pk L j):at2 T x y=at2 T x' y':=by
 have one:∀{k j:Nat},k<L.length->j<L.length->k≠j->∀{x y y':Nat},x∈pk L k->y∈pk L j->y'∈pk L j->at2 T x y=at2 T x y':=fun {k j} hk hj hkj {x y y'} hx hy hy'=>by
  have md:=(y0G (G.lt (z9e hj))).mp (G.tg _ (z9e hj))
  rcases md x (G.plt hk hx) (fun z=>hkj (G.only hk hj hx z))with h | h
  ·rw [h y (G.plt hj hy) hy,h y' (G.plt hj hy') hy']
  ·rw [h y (G.plt hj hy) hy,h y' (G.plt hj hy') hy']
 have ne:∀{a b:Nat},a∈pk L k->b∈pk L j->a≠b:=fun ha hb z=>hkj (G.only hk hj ha (z ▸ hb))
 rw [one hk hj hkj hx hy hy',F.two x (G.plt hk hx) y' (G.plt hj hy') (ne hx hy'),F.two x' (G.plt hk hx') y' (G.plt hj hy') (ne hx' hy'),one hj hk (Ne.symm hkj) hy' hx hx']
theorem y8o{k:Nat}(hk:k<L.length):(L.map fun p=>p.headD 0).getD k 0=(pk L k).headD 0:=by
 unfold pk
 simp [aJ,ac hk]
theorem x0V(F:Full m T)(G:Gd T m L){k j:Nat}(hk:k<L.length)(hj:j<L.length)(hkj:k≠j){x y:Nat}(hx:x∈pk L k)(hy:y∈pk L j):at2 (ouT T L) k j=at2 T x y:=by
 unfold ouT
 have e:at2 (z0x (L.map fun p=>p.headD 0) (at2 T)) k j=at2 T ((L.map fun p=>p.headD 0).getD k 0) ((L.map fun p=>p.headD 0).getD j 0):=by
  unfold at2 z0x
  simp [aJ,ac hk,ac hj]
 rw [e,y8o hk,y8o hj]
 exact G.same F hk hj hkj (G.head hk) hx (G.head hj) hy
theorem ou_full(F:Full m T)(G:Gd T m L):Full L.length (ouT T L):=by
 have sq:Sq L.length (ouT T L):=by
  have:=z5w (th:=L.map fun p=>p.headD 0) (f:=at2 T)
  rwa [am]at this
 refine⟨sq,fun k hk=>?_,fun k hk j hj hkj=>?_⟩
 ·unfold ouT
  have e:at2 (z0x (L.map fun p=>p.headD 0) (at2 T)) k k=at2 T ((L.map fun p=>p.headD 0).getD k 0) ((L.map fun p=>p.headD 0).getD k 0):=by
   unfold at2 z0x
   simp [aJ,ac hk]
  rw [e,y8o hk]
  exact F.own _ (G.plt hk (G.head hk))
 ·rw [x0V F G hk hj hkj (G.head hk) (G.head hj),x0V F G hj hk (Ne.symm hkj) (G.head hj) (G.head hk)]
  exact F.two _ (G.plt hk (G.head hk)) _ (G.plt hj (G.head hj)) fun z=>hkj (G.only hk hj (G.head hk) (z ▸ G.head hj))
end
theorem y6Y{n:Nat}{T:List (List Bool)}(sq:Sq n T)(hn:n≤1000){k:Nat}(hk:k<n):z6o [z0A T,.int (k:Int)]=some (z2v ((ad n).map fun i=>at2 T i k)):=by
 refine z0r rfl ?_
 have hl':(T.map z2v).length≤1000000:=by rw [am,sq.1];omega
 have e:(ad n).map (fun i=>at2 T i k)=T.map fun r=>r.getD k false:=by
  apply bb
  ·simp [sq.1]
  ·intro i h1 h2
   have hi:i<T.length:=by simpa using h2
   simp [at2,aJ,ac hi]
 have hc:z1p (z2e z3x (d2 ixD (z0d 2) (z0d 1)) [some (z0A T),some (.int (k:Int))]) (T.map z2v)=some ((T.map fun r=>r.getD k false).map bD):=by
  rw [aL]
  exact z4e (fun r:List Bool=>bD (r.getD k false)) fun r hr=>by simp! only [z9w (show k<r.length by rw [sq.2 r hr];exact hk),bD]
 have fl:=z1T (z1c (T.map fun r=>r.getD k false))
 simp! only [z9P,seq_tab,z4P hl',hc,fl,z0b]
 rw [e]
 rfl
theorem y5o{n:Nat}{T:List (List Bool)}(sq:Sq n T)(hn:n≤1000){k:Nat}(hk:k<n):z2B [z0A T,.int (k:Int)]=some (thD ((ad n).filter fun j=>at2 T j k)):=by
 refine z0r rfl ?_
 have p:=y1G ((ad n).map fun i=>at2 T i k) (by rw [am,aW];omega)
 have e:((ad ((ad n).map fun i=>at2 T i k).length).filter fun i=>((ad n).map fun i=>at2 T i k).getD i false)=(ad n).filter fun j=>at2 T j k:=by
  rw [am,aW]
  apply bR
  intro i hi
  rw [z9n (by simpa using hi)]
  simp
 rw [e]at p
 simp! only [z3N,y6Y sq hn hk,p,z0b]
theorem x1g(n:Int):z2t [.int n]=some (.bl true):=by
 refine z0r rfl ?_
 simp_all! only [z4b,z0b]
def wsum(ws:List Int)(l:List Nat):Int:=(l.map fun j=>ws.getD j 0).sum
def scr(T:List (List Bool))(ws:List Int)(n i:Nat):Int:=wsum ws ((ad n).filter fun j=>at2 T i j) - wsum ws ((ad n).filter fun j=>at2 T j i)
theorem y9s{ws:List Int}{th:List Nat}(hl:th.length≤1000)(h:∀x∈th,x<ws.length):z2m [z1B ws,thD th]=some (.int (wsum ws th)):=by
 refine z0r rfl ?_
 simp! only [z4A,z3u]
 rw [z1W (fun j=>D.int (ws.getD j 0)) hl fun j hj=>by simp! only [nD,y4P (h j hj)]]
 have e:(th.map fun j=>D.int (ws.getD j 0))=(th.map fun j=>ws.getD j 0).map D.int:=by rw [aL];rfl
 simp! only [e,y0O,z0b]
 rfl
theorem x1n{m:Nat}{T:List (List Bool)}(sq:Sq m T)(hm:m≤1000){ws:List Int}(hw:ws.length=m){i:Nat}(hi:i<m):z7j [z0A T,z1B ws,.int (i:Int)]=some (.int (scr T ws m i)):=by
 refine z0r rfl ?_
 have fl:∀p:Nat->Bool,((ad m).filter p).length≤1000:=fun p=>ba (bE ..) (by simpa using hm)
 have fm:∀p:Nat->Bool,∀x∈(ad m).filter p,x<ws.length:=fun p x hx=>by
  rw [hw]
  exact ae.mp (aj.mp hx).1
 simp! only [y2j,z6K sq hm hi,y5o sq hm hi,y9s (fl _) (fm _),z0b]
 rfl
theorem y0h{ws:List Int}{p:Nat->Bool}{n:Nat}:wsum ws ((ad (n+1)).filter p)=wsum ws ((ad n).filter p)+if p n=true then ws.getD n 0 else 0:=by
 rw [x1E]
 unfold wsum
 rw [aI,cc]
 by_cases h:p n=true
 ·rw [if_pos h,if_pos h];simp
 ·rw [if_neg h,if_neg h];simp
def sg(k:Nat):Int:=if k % 2=0 then 1 else -1
def sgn(T:List (List Bool))(i j:Nat):Int:=if at2 T i j=true then 1 else -1
def pfS(T:List (List Bool)):Nat->List Nat->Int
 |0,_=>1
 |_+1,[]=>1
 |n+1,x::r=>((ad r.length).map fun k=>sg k*sgn T x (r.getD k 0)*pfS T n (r.eraseIdx k)).sum
theorem z5S(k:Nat):sg k=1∨sg k = -1:=by unfold sg;split;exact .inl rfl;exact .inr rfl
theorem z5H(T:List (List Bool))(i j:Nat):sgn T i j=1∨sgn T i j = -1:=by unfold sgn;split;exact .inl rfl;exact .inr rfl
theorem sg_add{a b:Nat}:sg (a+b)=sg a*sg b:=by
 unfold sg
 rcases cV a with h | h <;> rcases cV b with k | k
 ·rw [if_pos (by omega),if_pos h,if_pos k];rfl
 ·rw [if_neg (by omega),if_pos h,if_neg (by omega)];rfl
 ·rw [if_neg (by omega),if_neg (by omega),if_pos k];rfl
 ·rw [if_pos (by omega),if_neg (by omega),if_neg (by omega)];rfl
theorem z7z{f:Nat->Int}{B:Int}:∀{c:Nat},(∀k<c,-B≤f k∧f k≤B)->-((c:Int)*B)≤((ad c).map f).sum∧((ad c).map f).sum≤(c:Int)*B
 |0,_=>by simp
 |c+1,h=>by
  have ih:=z7z (c:=c) fun k hk=>h k (by omega)
  have hc:=h c (by omega)
  rw [b7,aI,cc]
  have e:(((c+1:Nat)):Int)*B=(c:Int)*B+B:=by rw [Int.natCast_add,Int.add_mul];simp
  rw [e]
  simp only [aG,cS,ce,List.sum_nil]
  omega
theorem z8D{T:List (List Bool)}:∀{n:Nat} {L:List Nat},L.length≤8->-(8 ^ n:Int)≤pfS T n L∧pfS T n L≤8 ^ n
 |0,L,_=>by show -(8 ^ 0:Int)≤1∧(1:Int)≤8 ^ 0;omega
 |n+1,[],_=>by
  show -(8 ^ (n+1):Int)≤1∧(1:Int)≤8 ^ (n+1)
  have:(0:Int)<8 ^ (n+1):=Int.pow_pos (by omega)
  omega
 |n+1,x::r,hl=>by
  have hr:r.length≤7:=by simp at hl;omega
  have hp:(0:Int)<8 ^ n:=Int.pow_pos (by omega)
  have:=z7z (c:=r.length) (B:=8 ^ n) (f:=fun k=>sg k*sgn T x (r.getD k 0)*pfS T n (r.eraseIdx k)) fun k hk=>by
   have b:=z8D (T:=T) (n:=n) (L:=r.eraseIdx k) (by have:=List.length_eraseIdx_le r k;omega)
   show -(8 ^ n:Int)≤sg k*sgn T x (r.getD k 0)*pfS T n (r.eraseIdx k)∧sg k*sgn T x (r.getD k 0)*pfS T n (r.eraseIdx k)≤8 ^ n
   rcases z5S k with h | h <;> rcases z5H T x (r.getD k 0)with h' | h' <;> rw [h,h'] <;> omega
  show -(8 ^ (n+1):Int)≤((ad r.length).map fun k=>sg k*sgn T x (r.getD k 0)*pfS T n (r.eraseIdx k)).sum∧((ad r.length).map fun k=>sg k*sgn T x (r.getD k 0)*pfS T n (r.eraseIdx k)).sum≤8 ^ (n+1)
  have e:(8 ^ (n+1):Int)=8*8 ^ n:=by rw [Int.pow_succ,cD]
  have m1:(r.length:Int)*8 ^ n≤8*8 ^ n:=cL (by omega) (by omega)
  rw [e]
  omega
theorem y8j{f:Nat->Int}:∀{c:Nat},(∀k<c,f k % 2=1)->((ad c).map f).sum % 2=(c:Int) % 2
 |0,_=>by simp
 |c+1,h=>by
  have ih:=y8j (c:=c) fun k hk=>h k (by omega)
  have hc:=h c (by omega)
  rw [b7,aI,cc]
  simp only [aG,cS,ce,List.sum_nil]
  omega
theorem y4A{T:List (List Bool)}:∀{n c:Nat} {L:List Nat},L.length=2*c->pfS T n L % 2=1
 |0,_,L,_=>rfl
 |n+1,_,[],_=>rfl
 |n+1,c,x::r,hl=>by
  have hr:r.length+1=2*c:=hl
  show((ad r.length).map fun k=>sg k*sgn T x (r.getD k 0)*pfS T n (r.eraseIdx k)).sum % 2=1
  rw [y8j fun k hk=>?_]
  ·omega
  ·have b:=y4A (T:=T) (n:=n) (c:=c - 1) (L:=r.eraseIdx k) (by rw [bn,if_pos hk];omega)
   rcases z5S k with h | h <;> rcases z5H T x (r.getD k 0)with h' | h' <;> rw [h,h'] <;> omega
theorem z4B{i j:Int}(h1:-(2 ^ 100)≤i∧i≤2 ^ 100)(h2:-(2 ^ 100)≤j∧j≤2 ^ 100):x0c (.int i) (.int j)=some (.int (i*j)):=by
 have hb:(2 ^ 100:Nat)<bigL:=by decide
 have h:CMulB i j:=⟨cW (show i.natAbs≤2 ^ 100 by omega) hb,cW (show j.natAbs≤2 ^ 100 by omega) hb⟩
 show(if CMulB i j then _ else _)=_
 rw [if_pos h]
theorem y3I(k:Nat):z0L [.int (k:Int)]=some (.int (sg k)):=by
 refine z0r rfl ?_
 have d:z6v (.int (k:Int)) (.int 2)=some (.int ((k:Int) % 2)):=z4v (by omega)
 unfold sg
 rcases cV k with h | h
 ·have z:decide ((k:Int) % 2=0)=true:=decide_eq_true (by omega)
  rw [if_pos h]
  simp_all! only [z1Y,d,z,z0b]
 ·have z:decide ((k:Int) % 2=0)=false:=decide_eq_false (by omega)
  rw [if_neg (by omega)]
  simp_all! only [z1Y,d,z,z0b]
theorem sign_eq{th:List Nat}{T:List (List Bool)}{x k:Nat}{r:List Nat}(e:th=x::r)(hk:k<r.length):y1A [z0A (z0x th (at2 T)),.int ((k:Int)+1)]=some (.int (sgn T x (r.getD k 0))):=by
 refine z0r rfl ?_
 have sq:=z5w (th:=th) (f:=at2 T)
 have hl:th.length=r.length+1:=by rw [e];rfl
 have ixt:ixD (z0A (z0x th (at2 T))) (.int 0)=some (z2v ((z0x th (at2 T)).getD 0 [])):=z9V (i:=0) (by rw [sq.1];omega)
 have ixx:ixD (z2v ((z0x th (at2 T)).getD 0 [])) (.int ((k:Int)+1))=some (.bl (at2 (z0x th (at2 T)) 0 (k+1))):=z9w (j:=k+1) (by rw [sq.len (by omega)];omega)
 have ev:at2 (z0x th (at2 T)) 0 (k+1)=at2 T x (r.getD k 0):=by
  rw [e]
  show((((x::r).map fun i=>(x::r).map fun j=>at2 T i j).getD 0 []).getD (k+1) false)=_
  show(((r.map fun j=>at2 T x j)).getD k false)=_
  simp [aJ,ac hk]
 rw [ev]at ixx
 unfold sgn
 cases hv:at2 T x (r.getD k 0)with
 |true=>
  rw [hv]at ixx
  simp_all! only [y3D,ixt,ixx,z0b]
  rfl
 |false=>
  rw [hv]at ixx
  simp_all! only [y3D,ixt,ixx,z0b]
  rfl
theorem z7w:∀{r:List Nat} {k:Nat},k<r.length->((ad r.length).filter fun i=>decide (i≠k)).map (fun i=>r.getD i 0)=r.eraseIdx k
 |[],_,h=>by simp at h
 |y::r,k,h=>by
  show((ad (r.length+1)).filter fun i=>decide (i≠k)).map (fun i=>(y::r).getD i 0)=_
  rw [c9,bL,List.filter_map]
  cases k with
  |zero=>
   rw [if_neg (by simp),aL,dB.mpr (fun a _=>by simp)]
   show(ad r.length).map (fun i=>r.getD i 0)=r
   apply bb
   ·simp
   ·intro i h1 h2
    simp [aJ,ac h2]
  |succ k=>
   rw [if_pos (by simp),aG,aL]
   show y::_=y::r.eraseIdx k
   rw [←z7w (r:=r) (k:=k) (by simpa using h)]
   congr 1
   show((ad r.length).filter _).map (fun i=>r.getD i 0)=_
   congr 1
   apply bR
   intro i _
   simp
theorem z6A{th:List Nat}{f:Nat->Nat->Bool}{i j:Nat}(hi:i<th.length)(hj:j<th.length):at2 (z0x th f) i j=f (th.getD i 0) (th.getD j 0):=by
 unfold at2 z0x
 simp [aJ,ac hi,ac hj]
theorem y8N{th:List Nat}{T:List (List Bool)}{is:List Nat}(h:∀i∈is,i<th.length):z0x is (at2 (z0x th (at2 T)))=z0x (is.map fun i=>th.getD i 0) (at2 T):=by
 show is.map (fun i=>is.map fun j=>at2 (z0x th (at2 T)) i j)=(is.map fun i=>th.getD i 0).map fun i=>(is.map fun i=>th.getD i 0).map fun j=>at2 T i j
 rw [aL]
 apply bB
 intro i hi
 show is.map (fun j=>at2 (z0x th (at2 T)) i j)=(is.map fun i=>th.getD i 0).map fun j=>at2 T (th.getD i 0) j
 rw [aL]
 apply bB
 intro j hj
 exact z6A (h i hi) (h j hj)
theorem z8u{th:List Nat}{T:List (List Bool)}(hl:th.length≤1000){no:List Nat}:z1i [z0A (z0x th (at2 T)),thD no]=some (z0A (z0x (((ad th.length).filter fun i=>!no.contains i).map fun i=>th.getD i 0) (at2 T))):=by
 refine z0r rfl ?_
 have sq:=z5w (th:=th) (f:=at2 T)
 have cx:z2c (some (z4p 0 th.length)) (z2e (z0M (d2 y6L (z0d 2) (z0d 1))) (z0d 2) [some (z0A (z0x th (at2 T))),some (thD no)])=some (((ad th.length).filter fun i=>!no.contains i).map nD):=by
  rw [z2G]
  exact y2W (fun i=>!no.contains i) nD (by simp;omega) (fun i hi=>by simp! only [nD,y8r]) fun i hi _=>by simp! only []
 have hm:∀i∈(ad th.length).filter fun i=>!no.contains i,i<th.length:=fun i hi=>ae.mp (aj.mp hi).1
 have p:=y2R sq (th:=(ad th.length).filter fun i=>!no.contains i) (by have:=bE (fun i=>!no.contains i) (ad th.length);rw [aW]at this;omega) hm
 rw [y8N hm]at p
 simp! only [z7k,z1d,sq.1,z1m (show th.length≤1000000 by omega),cx,z7p,p,z0b]
theorem y4H{x k:Nat}{r:List Nat}{T:List (List Bool)}(hl:r.length≤900)(hk:k<r.length):z1i [z0A (z0x (x::r) (at2 T)),.lst [.int 0,.int ((k:Int)+1)]]=some (z0A (z0x (r.eraseIdx k) (at2 T))):=by
 have w:=z8u (th:=x::r) (T:=T) (by simp;omega) (no:=[0,k+1])
 have e:((ad (x::r).length).filter fun i=>!([0,k+1]:List Nat).contains i).map (fun i=>(x::r).getD i 0)=r.eraseIdx k:=by
  show((ad (r.length+1)).filter fun i=>!([0,k+1]:List Nat).contains i).map (fun i=>(x::r).getD i 0)=_
  rw [c9,bL,if_neg (by simp),List.filter_map,aL,←z7w hk]
  have hf:(ad r.length).filter ((fun i=>!([0,k+1]:List Nat).contains i)∘Nat.succ)=(ad r.length).filter fun i=>decide (i≠k):=bR fun i _=>by simp
  rw [hf]
  rfl
 rw [e]at w
 exact w
theorem y7V{T:List (List Bool)}:∀{n c:Nat} {th:List Nat},n≤12->th.length≤8->th.length=2*c->c<n->z1j n [z0A (z0x th (at2 T))]=some (.int (pfS T n th))
 |0,_,_,_,_,_,h=>by omega
 |n+1,c,[],_,_,_,_=>by
  refine z0r rfl ?_
  have l0:z1z [z0A (z0x [] (at2 T))]=some (.int 0):=rfl
  simp_all! only [z2f,l0,z0b]
  rfl
 |n+1,c,x::r,hn,h8,hc,hcn=>by
  refine z0r rfl ?_
  have hr:r.length+1=2*c:=hc
  have h8:r.length+1≤8:=h8
  have l0:z1z [z0A (z0x (x::r) (at2 T))]=some (.int ((r.length:Int)+1)):=by
   rw [z1d,(z5w (th:=x::r) (f:=at2 T)).1]
   rfl
  have d0:decide ((r.length:Int)+1=0)=false:=decide_eq_false (by omega)
  have rn:rng2 (some (.int 1)) (some (.int ((r.length:Int)+1)))=some (z4p 1 r.length):=by
   rw [y6D (by omega)]
   congr 2
   omega
  obtain⟨f,hf⟩:∃f:Nat->Int,f=fun k=>sg k*sgn T x (r.getD k 0)*pfS T n (r.eraseIdx k):=⟨_,rfl⟩
  simp_all! only [z2f,l0,d0,rn]
  refine z0v (I:=fun s=>∃o2,s=[some (.sh (z0A (z0x (x::r) (at2 T)))),some (.sh (.int ((ad r.length).map f).sum)),o2]) ?_ ?_
  ·refine z3j (fun k s=>∃o2,s=[some (.sh (z0A (z0x (x::r) (at2 T)))),some (.sh (.int ((ad k).map f).sum)),o2]) ⟨_,rfl⟩ ?_ fun s z=>⟨s,rfl,z⟩
   rintro k hk s ⟨o2,rfl⟩
   have e1:(1:Int)+(k:Int)=(k:Int)+1:=by omega
   have e2:(k:Int)+1 - 1=(k:Int):=by omega
   have hel:(r.eraseIdx k).length=2*(c - 1):=by rw [bn,if_pos hk];omega
   have ps:=y7V (T:=T) (n:=n) (c:=c - 1) (th:=r.eraseIdx k) (by omega) (by omega) hel (by omega)
   have b:=z8D (T:=T) (n:=n) (L:=r.eraseIdx k) (by omega)
   have h12:(8 ^ n:Int)≤8 ^ 12:=by
    have h:=fD (n:=8) (by omega) (show n≤12 by omega)
    have e:((8 ^ n:Nat):Int)=8 ^ n:=Int.natCast_pow 8 n
    omega
   have sc:-1≤sg k*sgn T x (r.getD k 0)∧sg k*sgn T x (r.getD k 0)≤1:=by
    rcases z5S k with h | h <;> rcases z5H T x (r.getD k 0)with h' | h' <;> rw [h,h'] <;> omega
   have s1:-1≤sg k∧sg k≤1:=by rcases z5S k with h | h <;> rw [h] <;> omega
   have s2:-1≤sgn T x (r.getD k 0)∧sgn T x (r.getD k 0)≤1:=by rcases z5H T x (r.getD k 0)with h | h <;> rw [h] <;> omega
   have m1:=z4B (i:=sg k) (j:=sgn T x (r.getD k 0)) (by omega) (by omega)
   have m2:=z4B (i:=sg k*sgn T x (r.getD k 0)) (j:=pfS T n (r.eraseIdx k)) (by omega) (by omega)
   have es:((ad (k+1)).map f).sum=((ad k).map f).sum+sg k*sgn T x (r.getD k 0)*pfS T n (r.eraseIdx k):=by
    rw [b7,aI,cc,hf]
    simp
   rw [es]
   simp_all! only [e1,e2,y3I,sign_eq rfl hk,y4H (x:=x) (T:=T) (show r.length≤900 by omega) hk,ps,m1,m2,z0b]
   exact⟨_,rfl⟩
  ·rintro s ⟨o2,rfl⟩
   simp! only [z0b,hf]
   rfl
theorem y8Z{α:Type}{f:α->Int}{c:Int}:∀{l:List α},(l.map fun x=>c*f x).sum=c*(l.map f).sum
 |[]=>by simp
 |x::l=>by rw [aG,ce,y8Z,aG,ce,Int.mul_add]
def Ex(s:Nat->Nat->Int)(x:Nat):(List Nat->Int)->List Nat->Int
 |_,[]=>0
 |F,y::r=>s x y*F r - Ex s x (fun l=>F (y::l)) r
theorem y5H{s:Nat->Nat->Int}{x:Nat}{c:Int}:∀{l:List Nat} {F G:List Nat->Int},Ex s x (fun l=>c*F l - G l) l=c*Ex s x F l - Ex s x G l
 |[],F,G=>by show(0:Int)=c*0 - 0;omega
 |y::r,F,G=>by
  show s x y*(c*F r - G r) - Ex s x (fun l=>c*F (y::l) - G (y::l)) r=c*(s x y*F r - Ex s x (fun l=>F (y::l)) r) - (s x y*G r - Ex s x (fun l=>G (y::l)) r)
  rw [y5H (F:=fun l=>F (y::l)) (G:=fun l=>G (y::l)),Int.mul_sub,Int.mul_sub,Int.mul_left_comm]
  omega
theorem y8E{s:Nat->Nat->Int}{x:Nat}:∀{l:List Nat} {F G:List Nat->Int},(∀l,F l = -G l)->Ex s x F l = -Ex s x G l
 |[],F,G,_=>by show(0:Int) = -0;omega
 |y::r,F,G,h=>by
  show s x y*F r - Ex s x (fun l=>F (y::l)) r = -(s x y*G r - Ex s x (fun l=>G (y::l)) r)
  rw [y8E (F:=fun l=>F (y::l)) (G:=fun l=>G (y::l)) fun l=>h (y::l),h r,Int.mul_neg]
  omega
theorem y7q{s:Nat->Nat->Int}{x:Nat}{F:List Nat->Int}{l:List Nat}(h:∀l,F l=0):Ex s x F l=0:=by
 have:=y8E (s:=s) (x:=x) (l:=l) (F:=F) (G:=F) fun l=>by rw [h l];rfl
 omega
theorem y9L{s:Nat->Nat->Int}{a b:Nat}:∀{l:List Nat} {F:List Nat->Int},Ex s a (Ex s b F) l = -Ex s b (Ex s a F) l
 |[],F=>by show(0:Int) = -0;omega
 |y::r,F=>by
  show s a y*Ex s b F r - Ex s a (fun l=>s b y*F l - Ex s b (fun l=>F (y::l)) l) r = -(s b y*Ex s a F r - Ex s b (fun l=>s a y*F l - Ex s a (fun l=>F (y::l)) l) r)
  rw [y5H,y5H,y9L (F:=fun l=>F (y::l))]
  omega
def Pf(s:Nat->Nat->Int):Nat->List Nat->Int
 |_,[]=>1
 |0,_::_=>0
 |n+1,x::r=>Ex s x (Pf s n) r
def Alt(F:List Nat->Int):Prop:=∀A a b Q,F (A++a::b::Q) = -F (A++b::a::Q)
theorem x3c{s:Nat->Nat->Int}{x:Nat}:∀{A:List Nat} {F:List Nat->Int},Alt F->∀a b Q,Ex s x F (A++a::b::Q) = -Ex s x F (A++b::a::Q)
 |[],F,h,a,b,Q=>by
  show s x a*F (b::Q) - (s x b*F (a::Q) - Ex s x (fun l=>F (a::b::l)) Q) = -(s x b*F (a::Q) - (s x a*F (b::Q) - Ex s x (fun l=>F (b::a::l)) Q))
  rw [y8E (F:=fun l=>F (a::b::l)) (G:=fun l=>F (b::a::l)) fun l=>h [] a b l]
  omega
 |y::A,F,h,a,b,Q=>by
  show s x y*F (A++a::b::Q) - Ex s x (fun l=>F (y::l)) (A++a::b::Q) = -(s x y*F (A++b::a::Q) - Ex s x (fun l=>F (y::l)) (A++b::a::Q))
  rw [x3c (A:=A) (F:=fun l=>F (y::l)) (fun B c d R=>h (y::B) c d R),h A a b Q,Int.mul_neg]
  omega
theorem x2T{s:Nat->Nat->Int}(sk:∀a b,s a b = -s b a):∀n,Alt (Pf s n)
 |0,A,a,b,Q=>by
  have z:∀c d,Pf s 0 (A++c::d::Q)=0:=fun c d=>by cases A <;> rfl
  rw [z,z]
  rfl
 |n+1,x::A,a,b,Q=>x3c (x2T sk n) a b Q
 |n+1,[],a,b,Q=>by
  show s a b*Pf s n Q - Ex s a (fun l=>Pf s n (b::l)) Q = -(s b a*Pf s n Q - Ex s b (fun l=>Pf s n (a::l)) Q)
  have:Ex s a (fun l=>Pf s n (b::l)) Q = -Ex s b (fun l=>Pf s n (a::l)) Q:=by
   cases n with
   |zero=>
    rw [y7q (F:=fun l=>Pf s 0 (b::l)) fun l=>rfl,y7q (F:=fun l=>Pf s 0 (a::l)) fun l=>rfl]
    rfl
   |succ n=>exact y9L (F:=Pf s n)
  rw [this,sk a b,d7]
  omega
theorem y9e{F:List Nat->Int}(h:Alt F){i:Nat}:∀(n:Nat) {A B:List Nat},A.length=n->F (i::A++i::B)=0
 |0,A,B,hA=>by
  have:A=[]:=bP.mp hA
  subst this
  have:=h [] i i B
  show F (i::i::B)=0
  have h2:F (i::i::B) = -F (i::i::B):=this
  omega
 |n+1,A,B,hA=>by
  have hne:A≠[]:=fun z=>by rw [z]at hA;simp at hA
  obtain⟨A',y,rfl⟩:∃A' y,A=A'++[y]:=⟨A.dropLast,A.getLast hne,(List.dropLast_concat_getLast hne).symm⟩
  have e1:i::(A'++[y])++i::B=(i::A')++y::i::B:=by simp
  rw [e1,h (i::A') y i B,y9e h n (A:=A') (B:=y::B) (by simpa using hA)]
  rfl
theorem y6I{s:Nat->Nat->Int}(sk:∀a b,s a b = -s b a){n i:Nat}{L:List Nat}(h:i∈L):Ex s i (Pf s n) L=0:=by
 obtain⟨A,B,rfl⟩:=List.append_of_mem h
 exact y9e (x2T sk (n+1)) _ rfl
theorem sg_succ{k:Nat}:sg (k+1) = -sg k:=by rw [sg_add];show sg k*(-1)=_;omega
theorem y7B{s:Nat->Nat->Int}{x:Nat}:∀{r:List Nat} {F:List Nat->Int},Ex s x F r=((ad r.length).map fun k=>sg k*s x (r.getD k 0)*F (r.eraseIdx k)).sum
 |[],F=>rfl
 |y::r,F=>by
  show s x y*F r - Ex s x (fun l=>F (y::l)) r=((ad (r.length+1)).map fun k=>sg k*s x ((y::r).getD k 0)*F ((y::r).eraseIdx k)).sum
  rw [c9,aG,ce,aL,y7B (r:=r)]
  have e:((ad r.length).map ((fun k=>sg k*s x ((y::r).getD k 0)*F ((y::r).eraseIdx k))∘Nat.succ)).sum = -((ad r.length).map fun k=>sg k*s x (r.getD k 0)*F (y::r.eraseIdx k)).sum:=by
   have h1:((ad r.length).map ((fun k=>sg k*s x ((y::r).getD k 0)*F ((y::r).eraseIdx k))∘Nat.succ))=(ad r.length).map fun k=>-1*(sg k*s x (r.getD k 0)*F (y::r.eraseIdx k)):=by
    apply bB
    intro k _
    show sg (k+1)*s x (r.getD k 0)*F (y::r.eraseIdx k)=_
    rw [sg_succ,d7,d7]
    omega
   rw [h1,y8Z]
   omega
  rw [e]
  show _=1*s x y*F r+_
  rw [Int.one_mul]
  omega
def sk2(T:List (List Bool))(m i j:Nat):Int:=if i<m∧j<m then(if at2 T i j=true then 1 else 0) - (if at2 T j i=true then 1 else 0)else 0
theorem z4Z{T:List (List Bool)}{m:Nat}(a b:Nat):sk2 T m a b = -sk2 T m b a:=by
 unfold sk2
 by_cases h:a<m∧b<m
 ·rw [if_pos h,if_pos (show b<m∧a<m from⟨h.2,h.1⟩)];omega
 ·rw [if_neg h,if_neg (show ¬(b<m∧a<m) from fun z=>h ⟨z.2,z.1⟩)];rfl
theorem sk2_sgn{T:List (List Bool)}{m:Nat}(F:Full m T){i j:Nat}(hi:i<m)(hj:j<m)(h:i≠j):sgn T i j=sk2 T m i j:=by
 unfold sgn sk2
 rw [if_pos (show i<m∧j<m from⟨hi,hj⟩)]
 have:=F.two i hi j hj h
 cases h1:at2 T i j <;> cases h2:at2 T j i <;> rw [h1,h2]at this <;> first | rfl | cases this
theorem y0g{T:List (List Bool)}{m:Nat}(F:Full m T):∀{n c:Nat} {L:List Nat},L.Nodup->(∀x∈L,x<m)->L.length=2*c->c≤n->pfS T n L=Pf (sk2 T m) n L
 |0,c,L,_,_,hl,hc=>by
  have:L=[]:=bP.mp (by omega)
  subst this
  rfl
 |n+1,c,[],_,_,_,_=>rfl
 |n+1,c,x::r,nd,hlt,hl,hc=>by
  have nd':=av.mp nd
  have hr:r.length+1=2*c:=hl
  show((ad r.length).map fun k=>sg k*sgn T x (r.getD k 0)*pfS T n (r.eraseIdx k)).sum=Ex (sk2 T m) x (Pf (sk2 T m) n) r
  rw [y7B]
  refine z7e fun k hk=>?_
  have hk:=ae.mp hk
  have hy:r.getD k 0∈r:=by
   rw [au,ac hk]
   exact aR hk
  rw [sk2_sgn F (hlt x ah) (hlt _ (ag _ hy)) fun z=>nd'.1 (z ▸ hy),y0g F (n:=n) (c:=c - 1) (nd'.2.sublist (cG r k)) (fun z hz=>hlt z (ag _ (bM hz))) (by rw [bn,if_pos hk];omega) (by omega)]
def x1R(T:List (List Bool))(m:Nat):List Int:=(ad m).map fun k=>sg k*pfS T 12 ((ad m).eraseIdx k)
theorem y6k{T:List (List Bool)}{m:Nat}:(x1R T m).length=m:=by simp [x1R]
theorem ker_at{T:List (List Bool)}{m k:Nat}(hk:k<m):(x1R T m).getD k 0=sg k*pfS T 12 ((ad m).eraseIdx k):=by
 unfold x1R
 simp [aJ,ac,hk]
theorem z6N{T:List (List Bool)}{ws:List Int}{m i:Nat}(hi:i<m):∀{n:Nat},n≤m->scr T ws n i=((ad n).map fun j=>sk2 T m i j*ws.getD j 0).sum
 |0,_=>rfl
 |n+1,hn=>by
  have ih:=z6N (T:=T) (ws:=ws) hi (n:=n) (by omega)
  unfold scr at ih ⊢
  rw [y0h,y0h,b7,aI,cc,←ih]
  have e:((([n]:List Nat).map fun j=>sk2 T m i j*ws.getD j 0)).sum=sk2 T m i n*ws.getD n 0:=by simp
  rw [e]
  unfold sk2
  rw [if_pos (show i<m∧n<m from⟨hi,by omega⟩)]
  cases at2 T i n <;> cases at2 T n i <;> simp <;> omega
theorem wo1_eq{m k:Nat}{T:List (List Bool)}(sq:Sq m T)(hm:m≤1000)(hk:k<m):z1i [z0A T,.lst [.int (k:Int)]]=some (z0A (z0x ((ad m).eraseIdx k) (at2 T))):=by
 have w:=z8u (th:=ad m) (T:=T) (by simpa using hm) (no:=[k])
 rw [grid_of sq,aW]at w
 have e:((ad m).filter fun i=>!([k]:List Nat).contains i).map (fun i=>(ad m).getD i 0)=(ad m).eraseIdx k:=by
  have h:=z7w (r:=ad m) (k:=k) (by simpa using hk)
  rw [aW]at h
  rw [←h]
  have hf:(ad m).filter (fun i=>!([k]:List Nat).contains i)=(ad m).filter fun i=>decide (i≠k):=bR fun i _=>by simp
  rw [hf]
 rw [e]at w
 exact w
theorem x0T{m c k:Nat}{T:List (List Bool)}(hm:m=2*c+1)(hc:c≤3)(hk:k<m):z1w [z0A (z0x ((ad m).eraseIdx k) (at2 T))]=some (.int (pfS T 12 ((ad m).eraseIdx k))):=by
 have hel:((ad m).eraseIdx k).length=2*c:=by rw [bn,aW,if_pos hk];omega
 exact y7V (by omega) (by omega) hel (by omega)
theorem y9C{m c:Nat}{T:List (List Bool)}(sq:Sq m T)(hm:m=2*c+1)(hc:c≤3):z6w [z0A T]=some (z1B (x1R T m)):=by
 refine z0r rfl ?_
 have cx:z2c (some (z4p 0 m)) (z2e z3x (d2 x0c (z0i z0L [z0d 1]) (z0i z1w [z0i z1i [z0d 0,mkL (z0o [z0d 1])]])) [some (z0A T)])=some ((x1R T m).map .int):=by
  rw [z2G,z1W (fun k=>D.int (sg k*pfS T 12 ((ad m).eraseIdx k))) (by simp;omega) fun k hk=>?_]
  ·unfold x1R
   rw [aL]
   rfl
  ·have hk:=ae.mp hk
   have hel:((ad m).eraseIdx k).length=2*c:=by rw [bn,aW,if_pos hk];omega
   have b:=z8D (T:=T) (n:=12) (L:=(ad m).eraseIdx k) (by omega)
   have s1:-1≤sg k∧sg k≤1:=by rcases z5S k with h | h <;> rw [h] <;> omega
   have m1:=z4B (i:=sg k) (j:=pfS T 12 ((ad m).eraseIdx k)) (by omega) (by omega)
   simp! only [nD,y3I,wo1_eq sq (show m≤1000 by omega) hk,x0T hm hc hk,m1]
 simp! only [z8I,z1d,sq.1,z1m (show m≤1000000 by omega),cx,flat_in,lst_in,z0b]
abbrev Vc:=Nat->Int
inductive Cn(A:List Vc):Vc->Prop where
 |one {a:Vc}:a∈A->Cn A a
 |add {u v:Vc}:Cn A u->Cn A v->Cn A (fun i=>u i+v i)
def z0E:Nat->Vc->Vc->Int
 |0,_,_=>0
 |n+1,y,a=>z0E n y a+y n*a n
theorem z9E{y u v:Vc}:∀{n:Nat},z0E n y (fun i=>u i+v i)=z0E n y u+z0E n y v
 |0=>rfl
 |n+1=>by
  unfold z0E
  rw [z9E]
  grind
theorem z4x{y u:Vc}{c:Int}:∀{n:Nat},z0E n y (fun i=>c*u i)=c*z0E n y u
 |0=>by simp [z0E]
 |n+1=>by
  unfold z0E
  rw [z4x]
  grind
theorem y4u{y u:Vc}{c:Int}:∀{n:Nat},z0E n (fun i=>c*y i) u=c*z0E n y u
 |0=>by simp [z0E]
 |n+1=>by
  unfold z0E
  rw [y4u]
  grind
theorem z2o{y y' u u':Vc}:∀{n:Nat},(∀i,i<n->y i=y' i)->(∀i,i<n->u i=u' i)->z0E n y u=z0E n y' u'
 |0,_,_=>rfl
 |n+1,h,h'=>by
  unfold z0E
  rw [z2o (fun i hi=>h i (by omega)) fun i hi=>h' i (by omega),h n (by omega),h' n (by omega)]
theorem x3o{A:List Vc}{u:Vc}(h:Cn A u):∀k:Nat,Cn A (fun i=>((k:Int)+1)*u i)
 |0=>by
  have e:(fun i=>(((0:Nat):Int)+1)*u i)=u:=funext fun i=>by simp
  rw [e]
  exact h
 |k+1=>by
  have e:(fun i=>(((k+1:Nat):Int)+1)*u i)=fun i=>((k:Int)+1)*u i+u i:=funext fun i=>by grind
  rw [e]
  exact .add (x3o h k) h
theorem x3K{A:List Vc}{u:Vc}(h:Cn A u){c:Int}(hc:0<c):Cn A (fun i=>c*u i):=by
 obtain⟨k,rfl⟩:∃k:Nat,c=(k:Int)+1:=⟨(c - 1).toNat,by omega⟩
 exact x3o h k
def stepV(m:Nat)(A:List Vc):List Vc:=A.filter (fun a=>decide (a m≤0))++(A.filter fun a=>decide (0<a m)).flatMap fun p=>(A.filter fun a=>decide (a m<0)).map fun q=>fun i=>-(q m)*p i+p m*q i
theorem cn_step{m:Nat}{A:List Vc}{v:Vc}(h:Cn (stepV m A) v):Cn A v∧v m≤0:=by
 induction h with
 |one ha=>
  rcases ay.mp ha with h | h
  ·obtain⟨h1,h2⟩:=aj.mp h
   exact⟨.one h1,of_decide_eq_true h2⟩
  ·obtain⟨p,hp,h⟩:=List.mem_flatMap.mp h
   obtain⟨q,hq,rfl⟩:=aK.mp h
   obtain⟨p1,p2⟩:=aj.mp hp
   obtain⟨q1,q2⟩:=aj.mp hq
   have p2:=of_decide_eq_true p2
   have q2:=of_decide_eq_true q2
   refine⟨.add (x3K (.one p1) (by omega)) (x3K (.one q1) p2),?_⟩
   grind
 | @add u v _ _ h1 h2=>exact⟨.add h1.1 h2.1,by have:=h1.2;have:=h2.2;show u m+v m≤0;omega⟩
theorem z9Z:∀(l:List (Int×Int)),l≠[]->(∀x∈l,0<x.2)->∃b∈l,∀x∈l,x.1*b.2≤b.1*x.2
 |[],h,_=>absurd rfl h
 |[x],_,_=>⟨x,ah,fun y hy=>by rw [ax.mp hy];omega⟩
 |x::y::r,_,hp=>by
  obtain⟨b,hb,h⟩:=z9Z (y::r) (by simp) fun z hz=>hp z (ag _ hz)
  have hb2:=hp b (ag _ hb)
  have hx2:=hp x ah
  by_cases c:x.1*b.2≤b.1*x.2
  ·refine⟨b,ag _ hb,fun z hz=>?_⟩
   rcases ai.mp hz with rfl | hz
   ·exact c
   ·exact h z hz
  ·refine⟨x,ah,fun z hz=>?_⟩
   rcases ai.mp hz with rfl | hz
   ·omega
   ·have h1:=h z hz
    have hz2:=hp z (ag _ hz)
    have h2:z.1*b.2*x.2≤b.1*z.2*x.2:=cL h1 (by omega)
    have h3:b.1*x.2*z.2≤x.1*b.2*z.2:=cL (by omega) (by omega)
    have h4:z.1*x.2*b.2≤x.1*z.2*b.2:=by grind
    exact Int.le_of_mul_le_mul_right h4 hb2
theorem y7d:∀(m:Nat) (A:List Vc),∃K:Int,0<K∧∀a∈A,-(a m)<K
 |_,[]=>⟨1,by decide,fun _ h=>nomatch h⟩
 |m,a::r=>by
  obtain⟨K,h1,h2⟩:=y7d m r
  refine⟨K+(if 0 < -(a m)then -(a m)else 0),by split <;> omega,fun b hb=>?_⟩
  rcases ai.mp hb with rfl | hb
  ·split <;> omega
  ·have:=h2 b hb
   split <;> omega
theorem ville:∀(m:Nat) (A:List Vc),(∃v,Cn A v∧∀i,i<m->v i≤0)∨∃y:Vc,(∀i,i<m->0≤y i)∧∀a∈A,0<z0E m y a
 |0,[]=>.inr ⟨fun _=>0,fun _ h=>(by omega),fun _ h=>nomatch h⟩
 |0,a::r=>.inl ⟨a,.one ah,fun _ h=>(by omega)⟩
 |m+1,A=>by
  rcases ville m (stepV m A)with⟨v,hv,h⟩ | ⟨y,y0,hy⟩
  ·obtain⟨h1,h2⟩:=cn_step hv
   refine .inl ⟨v,h1,fun i hi=>?_⟩
   by_cases e:i=m
   ·subst e;exact h2
   ·exact h i (by omega)
  ·have hn:∀a∈A,a m≤0->0<z0E m y a:=fun a ha h=>hy a (ay.mpr (.inl (aj.mpr ⟨ha,decide_eq_true h⟩)))
   have hpq:∀p∈A,∀q∈A,0<p m->q m<0->0 < -(q m)*z0E m y p+p m*z0E m y q:=fun p hp q hq h1 h2=>by
    have:=hy (fun i=>-(q m)*p i+p m*q i) (ay.mpr (.inr (List.mem_flatMap.mpr ⟨p,aj.mpr ⟨hp,decide_eq_true h1⟩,aK.mpr ⟨q,aj.mpr ⟨hq,decide_eq_true h2⟩,rfl⟩⟩)))
    rwa [z9E (u:=fun i=>-(q m)*p i) (v:=fun i=>p m*q i),z4x,z4x]at this
   by_cases hP:∃p∈A,0<p m∧z0E m y p≤0
   ·obtain⟨p0,hp0,hp1,hp2⟩:=hP
    obtain⟨b,hb,hbest⟩:=z9Z ((A.filter fun a=>decide (0<a m)).map fun a=>(-(z0E m y a),a m)) (by
     intro e
     have:(-(z0E m y p0),p0 m)∈(A.filter fun a=>decide (0<a m)).map fun a=>(-(z0E m y a),a m):=aK.mpr ⟨p0,aj.mpr ⟨hp0,decide_eq_true hp1⟩,rfl⟩
     rw [e]at this
     cases this) (fun x hx=>by
     obtain⟨a,ha,rfl⟩:=aK.mp hx
     exact of_decide_eq_true (aj.mp ha).2)
    obtain⟨pb,hpb,rfl⟩:=aK.mp hb
    obtain⟨hb1,hb2⟩:=aj.mp hpb
    have hb2:=of_decide_eq_true hb2
    have hq:∀p∈A,0<p m->-(z0E m y p)*pb m≤-(z0E m y pb)*p m:=fun p hp h=>hbest (-(z0E m y p),p m) (aK.mpr ⟨p,aj.mpr ⟨hp,decide_eq_true h⟩,rfl⟩)
    have ha0:0≤-(z0E m y pb):=by
     have h1:=hq p0 hp0 hp1
     have h2:0≤-(z0E m y p0)*pb m:=bc (by omega) (by omega)
     by_cases z:0≤-(z0E m y pb)
     ·exact z
     ·have h3:=Int.mul_neg_of_neg_of_pos (show -(z0E m y pb)<0 by omega) hp1
      omega
    obtain⟨K,k0,hK⟩:=y7d m A
    obtain⟨al,hal⟩:∃al,al = -(z0E m y pb):=⟨_,rfl⟩
    obtain⟨rb,hrb⟩:∃rb,rb=pb m:=⟨_,rfl⟩
    rw [←hal]at ha0 hq
    rw [←hrb]at hb2 hq
    refine .inr ⟨fun i=>if i=m then K*al+1 else K*rb*y i,fun i hi=>?_,fun a ha=>?_⟩
    ·show 0≤if i=m then K*al+1 else K*rb*y i
     have h1:=bc (show 0≤K by omega) ha0
     split
     ·omega
     ·exact bc (bc (by omega) (by omega)) (y0 i (by omega))
    ·show 0<z0E m _ a+(if m=m then K*al+1 else K*rb*y m)*a m
     rw [if_pos rfl,z2o (y':=fun i=>K*rb*y i) (u':=a) (fun i hi=>if_neg (by omega)) (fun _ _=>rfl),y4u]
     obtain⟨d,hd⟩:∃d,d=z0E m y a:=⟨_,rfl⟩
     have kr:=bJ k0 hb2
     by_cases h1:0<a m
     ·have h2:=hq a ha h1
      rw [←hd]at h2 ⊢
      have h3:0≤K*(al*a m - -d*rb):=bc (by omega) (by omega)
      grind
     ·by_cases h2:a m=0
      ·have h3:=hn a ha (by omega)
       rw [←hd]at h3 ⊢
       have:=bJ kr h3
       rw [h2]
       omega
      ·have h3:=hpq pb hb1 a ha (by omega) (by omega)
       have h4:=hK a ha
       rw [←hd,←hrb,show z0E m y pb = -al by omega]at h3
       rw [←hd]
       have h5:K*1≤K*(-(a m) * -al+rb*d):=Int.mul_le_mul_of_nonneg_left (by omega) (by omega)
       grind
   ·have hP:∀p∈A,0<p m->0<z0E m y p:=fun p hp h=>by
     by_cases z:0<z0E m y p
     ·exact z
     ·exact absurd ⟨p,hp,h,by omega⟩ hP
    refine .inr ⟨fun i=>if i=m then 0 else y i,fun i hi=>?_,fun a ha=>?_⟩
    ·show 0≤if i=m then 0 else y i
     split
     ·omega
     ·exact y0 i (by omega)
    ·show 0<z0E m _ a+(if m=m then 0 else y m)*a m
     rw [if_pos rfl,z2o (y':=y) (u':=a) (fun i hi=>if_neg (by omega)) (fun _ _=>rfl),dh,fw]
     by_cases h1:0<a m
     ·exact hP a ha h1
     ·exact hn a ha (by omega)
theorem z9A{a:Vc}:∀{n:Nat} {y:Vc},(∀i,i<n->y i=0)->z0E n y a=0
 |0,_,_=>rfl
 |n+1,y,h=>by
  unfold z0E
  rw [z9A (n:=n) fun i hi=>h i (by omega),h n (by omega),dh]
  rfl
theorem y3j{y z a:Vc}:∀{n:Nat},z0E n (fun i=>y i+z i) a=z0E n y a+z0E n z a
 |0=>rfl
 |n+1=>by
  unfold z0E
  rw [y3j]
  grind
theorem y8R{a:Vc}{j:Nat}:∀{n:Nat},j<n->z0E n (fun i=>if i=j then 1 else 0) a=a j
 |0,h=>by omega
 |n+1,h=>by
  unfold z0E
  by_cases e:n=j
  ·subst e
   rw [z9A (n:=n) fun i hi=>if_neg (by omega)]
   show 0+(if n=n then 1 else 0)*a n=a n
   rw [if_pos rfl]
   omega
  ·rw [y8R (n:=n) (by omega)]
   show a j+(if n=j then 1 else 0)*a n=a j
   rw [if_neg e]
   omega
theorem z6x{x z:Vc}{a:Nat->Nat->Int}{n:Nat}:∀{m:Nat},z0E m x (fun i=>z0E n z (fun j=>a i j))=z0E n z (fun j=>z0E m x (fun i=>a i j))
 |0=>by
  show(0:Int)=z0E n z fun _=>0
  have:=z4x (y:=z) (u:=fun _=>0) (c:=0) (n:=n)
  simp at this
  exact this.symm
 |m+1=>by
  show z0E m x (fun i=>z0E n z fun j=>a i j)+x m*z0E n z (fun j=>a m j)=z0E n z (fun j=>z0E m x (fun i=>a i j)+x m*a m j)
  rw [z6x (m:=m),z9E (u:=fun j=>z0E m x (fun i=>a i j)) (v:=fun j=>x m*a m j),z4x]
theorem z5B{y u:Vc}{n:Nat}:z0E n y (fun i=>-u i) = -z0E n y u:=by
 have:=z4x (y:=y) (u:=u) (c:=-1) (n:=n)
 have e:(fun i=>-1*u i)=fun i=>-u i:=funext fun i=>by omega
 rw [e]at this
 omega
theorem y3J{s:Nat->Nat->Int}(sk:∀a b,s a b = -s b a){m:Nat}{x:Vc}:z0E m x (fun i=>z0E m x (s i))=0:=by
 have h1:=z6x (x:=x) (z:=x) (a:=s) (n:=m) (m:=m)
 have e:(fun j=>z0E m x (fun i=>s i j))=fun j=>-z0E m x (s j):=funext fun j=>by
  rw [←z5B]
  exact z2o (fun _ _=>rfl) fun i _=>sk i j
 rw [e,z5B]at h1
 have h1:z0E m x (fun i=>z0E m x (s i)) = -z0E m x (fun i=>z0E m x (s i)):=h1
 omega
theorem z6M{a:Vc}:∀{n:Nat} {y:Vc},(∀i,i<n->0≤y i*a i)->0≤z0E n y a∧∀i,i<n->y i*a i≤z0E n y a
 |0,y,_=>⟨cO _,fun i hi=>by omega⟩
 |n+1,y,h=>by
  obtain⟨h1,h2⟩:=z6M (n:=n) fun i hi=>h i (by omega)
  have h3:=h n (by omega)
  refine⟨by unfold z0E;omega,fun i hi=>?_⟩
  unfold z0E
  by_cases e:i=n
  ·subst e;omega
  ·have:=h2 i (by omega)
   omega
theorem cn_coef{s:Nat->Nat->Int}{m:Nat}{v:Vc}(h:Cn ((ad m).map fun j=>fun i=>s i j) v):∃x:Vc,(∀i,0≤x i)∧(∃i,i<m∧0<x i)∧(∀i,m≤i->x i=0)∧∀i,v i=z0E m x (s i):=by
 induction h with
 |one ha=>
  obtain⟨j,hj,rfl⟩:=aK.mp ha
  have hj:=ae.mp hj
  refine⟨fun i=>if i=j then 1 else 0,fun i=>by dsimp only;split <;> omega,⟨j,hj,by dsimp only;rw [if_pos rfl];omega⟩,fun i hi=>if_neg (by omega),fun i=>(y8R hj).symm⟩
 |add _ _ h1 h2=>
  obtain⟨x,a1,⟨i,hi,a2⟩,a3,a4⟩:=h1
  obtain⟨z,b1,_,b3,b4⟩:=h2
  refine⟨fun i=>x i+z i,fun i=>by have:=a1 i;have:=b1 i;dsimp only;omega,⟨i,hi,by have:=b1 i;dsimp only;omega⟩,fun i hi=>by dsimp only;rw [a3 i hi,b3 i hi];rfl,fun i=>?_⟩
  rw [y3j,←a4,←b4]
theorem y6q{s:Nat->Nat->Int}(sk:∀a b,s a b = -s b a){m:Nat}(hm:0<m):∃x:Vc,(∀i,0≤x i)∧(∃i,i<m∧0<x i)∧(∀i,i<m->z0E m x (s i)≤0)∧∀i,i<m->0<x i->z0E m x (s i)=0:=by
 rcases ville m ((ad m).map fun j=>fun i=>s i j)with⟨v,hv,h⟩ | ⟨y,y0,hy⟩
 ·obtain⟨x,h1,h2,h3,h4⟩:=cn_coef hv
  have hu:∀i,i<m->z0E m x (s i)≤0:=fun i hi=>by rw [←h4];exact h i hi
  refine⟨x,h1,h2,hu,fun i hi hx=>?_⟩
  have h5:=y3J sk (m:=m) (x:=x)
  have h6:=z6M (n:=m) (y:=x) (a:=fun i=>-z0E m x (s i)) fun i hi=>bc (h1 i) (by have:=hu i hi;omega)
  rw [z5B,h5]at h6
  have h7:=h6.2 i hi
  have h8:=hu i hi
  by_cases z:z0E m x (s i)=0
  ·exact z
  ·have:=bJ hx (show 0 < -z0E m x (s i) by omega)
   have h7:x i * -z0E m x (s i)≤-0:=h7
   omega
 ·have hy:∀j,j<m->0<z0E m y (fun i=>s i j):=fun j hj=>hy _ (aK.mpr ⟨j,ae.mpr hj,rfl⟩)
  have h5:z0E m y (fun j=>z0E m y (fun i=>s i j))=0:=by
   rw [←z6x (x:=y) (z:=y) (a:=s) (n:=m) (m:=m)]
   exact y3J sk
  have h6:=z6M (n:=m) (y:=y) (a:=fun j=>z0E m y (fun i=>s i j)) fun i hi=>bc (y0 i hi) (by have:=hy i hi;omega)
  rw [h5]at h6
  have hz:∀i,i<m->y i=0:=fun i hi=>by
   have h7:=h6.2 i hi
   have h8:=y0 i hi
   by_cases z:y i=0
   ·exact z
   ·have:=bJ (show 0<y i by omega) (hy i hi)
    omega
  have:=hy 0 hm
  rw [z9A hz]at this
  omega
def z0V(L:List Nat)(f:Nat->Int):Int:=(L.map f).sum
theorem z0P{a:Nat}{L:List Nat}{f:Nat->Int}:z0V (a::L) f=f a+z0V L f:=by unfold z0V;simp
theorem z0X{L:List Nat}{f g:Nat->Int}(h:∀x∈L,f x=g x):z0V L f=z0V L g:=by
 unfold z0V
 rw [bB h]
theorem z8Q{L:List Nat}{f:Nat->Int}(h:∀x∈L,f x=0):z0V L f=0:=by
 induction L with
 |nil=>rfl
 |cons a r ih=>rw [z0P,h a ah,ih fun x hx=>h x (ag _ hx)];rfl
theorem y8a{L:List Nat}{f g:Nat->Int}:z0V L (fun x=>f x+g x)=z0V L f+z0V L g:=by
 induction L with
 |nil=>rfl
 |cons a r ih=>rw [z0P,z0P,z0P,ih];omega
theorem ls_mul{L:List Nat}{f:Nat->Int}{c:Int}:z0V L (fun x=>c*f x)=c*z0V L f:=by
 induction L with
 |nil=>show(0:Int)=c*0;omega
 |cons a r ih=>rw [z0P,z0P,ih,Int.mul_add]
theorem ls_swap{L M:List Nat}{f:Nat->Nat->Int}:z0V L (fun a=>z0V M fun b=>f a b)=z0V M (fun b=>z0V L fun a=>f a b):=by
 induction L with
 |nil=>exact(z8Q fun _ _=>rfl).symm
 |cons a r ih=>rw [z0P,ih,←y8a];exact z0X fun b _=>(z0P (f:=fun a=>f a b)).symm
theorem y2a{L M:List Nat}{f:Nat->Int}(h:L.Perm M):z0V L f=z0V M f:=by
 induction h with
 |nil=>rfl
 |cons x _ ih=>rw [z0P,z0P,ih]
 |swap x y l=>rw [z0P,z0P,z0P,z0P];omega
 |trans _ _ h1 h2=>rw [h1,h2]
theorem y1t{L:List Nat}{p:Nat->Bool}{f:Nat->Int}(h:∀x∈L,p x=false->f x=0):z0V (L.filter p) f=z0V L f:=by
 induction L with
 |nil=>rfl
 |cons a r ih=>
  have ih:=ih fun x hx=>h x (ag _ hx)
  rw [bL]
  cases e:p a with
  |true=>rw [if_pos rfl,z0P,z0P,ih]
  |false=>rw [if_neg ar,z0P,ih,h a ah e];omega
theorem y1n{y a:Vc}:∀{n:Nat},z0E n y a=z0V (ad n) fun i=>y i*a i
 |0=>rfl
 |n+1=>by
  unfold z0E
  rw [y1n (n:=n)]
  unfold z0V
  rw [b7,aI,cc]
  simp
section
variable{s:Nat->Nat->Int}{m:Nat}
def idx(S:List Nat)(t:Nat):Nat:=S.idxOf t
def vt(s:Nat->Nat->Int)(S:List Nat)(t:Nat):Int:=sg (idx S t)*Pf s 12 (S.eraseIdx (idx S t))
theorem y6y{S:List Nat}(nd:S.Nodup){k:Nat}(hk:k<S.length):idx S (S.getD k 0)=k:=by
 unfold idx
 rw [au,ac hk]
 exact List.Nodup.idxOf_getElem nd k hk
theorem x2x{S:List Nat}{f:Nat->Int}:z0V S f=z0V (ad S.length) fun k=>f (S.getD k 0):=by
 unfold z0V
 congr 1
 apply bb
 ·simp
 ·intro i h1 h2
  have h1:i<S.length:=by simpa using h1
  simp [aJ,ac h1]
theorem y8e{S:List Nat}(nd:S.Nodup){i:Nat}:Ex s i (Pf s 12) S=z0V S fun t=>s i t*vt s S t:=by
 rw [y7B,x2x]
 unfold z0V
 congr 1
 apply bB
 intro k hk
 have hk:=ae.mp hk
 unfold vt
 rw [y6y nd hk]
 ac_rfl
structure OddPf(s:Nat->Nat->Int)(m:Nat):Prop where
 sk:∀a b,s a b = -s b a
 one:∀L:List Nat,L.Nodup->(∀x∈L,x<m)->L.length % 2=0->Pf s 12 L % 2=1
 two:∀(i:Nat) (R:List Nat),(i::R).Nodup->(∀x∈i::R,x<m)->R.length % 2=1->Ex s i (Pf s 12) R % 2=1
theorem y0Z(O:OddPf s m){i:Nat}{R:List Nat}(nd:(i::R).Nodup)(hlt:∀x∈i::R,x<m)(hR:R.length % 2=1){z:Nat->Int}(h:∀y∈R,z0V (i::R) (fun t=>s y t*z t)=0):z i=0:=by
 have nd':=(av.mp nd).2
 have hG:∀y∈R,z0V R (fun t=>s y t*vt s R t)=0:=fun y hy=>by rw [←y8e nd'];exact y6I O.sk hy
 have hi:=O.two i R nd hlt hR
 rw [y8e nd']at hi
 have e0:z0V R (fun y=>vt s R y*z0V (i::R) (fun t=>s y t*z t))=0:=z8Q fun y hy=>by rw [h y hy];omega
 have e1:z0V R (fun y=>vt s R y*z0V (i::R) (fun t=>s y t*z t))=z0V (i::R) (fun t=>-(z t*z0V R (fun y=>s t y*vt s R y))):=by
  have a1:z0V R (fun y=>vt s R y*z0V (i::R) (fun t=>s y t*z t))=z0V R (fun y=>z0V (i::R) (fun t=>vt s R y*(s y t*z t))):=z0X fun y _=>ls_mul.symm
  rw [a1,ls_swap]
  refine z0X fun t _=>?_
  have a2:-(z t*z0V R (fun y=>s t y*vt s R y)) = -z t*z0V R (fun y=>s t y*vt s R y):=by rw [d7]
  rw [a2,←ls_mul]
  refine z0X fun y _=>?_
  rw [O.sk y t]
  grind
 have e2:z0V R (fun t=>-(z t*z0V R (fun y=>s t y*vt s R y)))=0:=z8Q fun t ht=>by rw [hG t ht];omega
 rw [e1,z0P,e2]at e0
 rcases dm.mp (show z i*z0V R (fun y=>s i y*vt s R y)=0 by omega)with h | h
 ·exact h
 ·rw [h]at hi
  cases hi
variable{x:Vc}
structure Ev(s:Nat->Nat->Int)(m:Nat)(x:Vc):Prop where
 nn:∀i,0≤x i
 some:∃i,i<m∧0<x i
 le:∀i,i<m->z0E m x (s i)≤0
 eq:∀i,i<m->0<x i->z0E m x (s i)=0
def z3F(m:Nat)(x:Vc):List Nat:=(ad m).filter fun i=>decide (0<x i)
theorem z7H:(z3F m x).Nodup:=List.nodup_range.filter _
theorem z5K:∀t∈z3F m x,t<m:=fun t ht=>ae.mp (aj.mp ht).1
theorem z6t:∀t∈z3F m x,0<x t:=fun t ht=>of_decide_eq_true (aj.mp ht).2
theorem z8B(nn:∀i,0≤x i){a:Vc}:z0E m x a=z0V (z3F m x) fun t=>a t*x t:=by
 rw [y1n,show(fun i=>x i*a i)=fun t=>a t*x t from funext fun i=>cD _ _]
 refine(y1t fun i _ hp=>?_).symm
 have:=of_decide_eq_false hp
 have:=nn i
 rw [show x i=0 by omega,cC]
theorem y3v(O:OddPf s m)(E:Ev s m x):(z3F m x).length % 2=1:=by
 have hne:z3F m x≠[]:=fun e=>by
  obtain⟨i,hi,hx⟩:=E.some
  have:i∈z3F m x:=aj.mpr ⟨ae.mpr hi,decide_eq_true hx⟩
  rw [e]at this
  cases this
 obtain⟨i,R,e⟩:∃i R,z3F m x=i::R:=by
  cases h:z3F m x with
  |nil=>exact absurd h hne
  |cons a r=>exact⟨a,r,rfl⟩
 have nd:=z7H (m:=m) (x:=x)
 have lt:=z5K (m:=m) (x:=x)
 have ps:=z6t (m:=m) (x:=x)
 by_cases hR:(z3F m x).length % 2=1
 ·exact hR
 ·have z:=y0Z O (i:=i) (R:=R) (e ▸ nd) (e ▸ lt) (by rw [e,aY]at hR;omega) (z:=x) fun y hy=>by
   have hy':y∈z3F m x:=by rw [e];exact ag _ hy
   rw [←e,←z8B E.nn (a:=s y)]
   exact E.eq y (lt y hy') (ps y hy')
  have:=ps i (by rw [e];exact ah)
  omega
theorem y1K(O:OddPf s m)(E:Ev s m x){a b:Nat}(ha:a∈z3F m x)(hb:b∈z3F m x):vt s (z3F m x) b*x a=x b*vt s (z3F m x) a:=by
 by_cases hab:a=b
 ·subst hab;exact cD _ _
 ·have nd:=z7H (m:=m) (x:=x)
  have lt:=z5K (m:=m) (x:=x)
  have ps:=z6t (m:=m) (x:=x)
  have od:=y3v O E
  obtain⟨S,hS⟩:∃S,S=z3F m x:=⟨_,rfl⟩
  rw [←hS]at ha hb nd lt ps od ⊢
  have p1:S.Perm (a::S.erase a):=dq ha
  have hb':b∈S.erase a:=(List.mem_erase_of_ne (Ne.symm hab)).mpr hb
  have p2:S.Perm (b::a::(S.erase a).erase b):=(p1.trans ((dq hb').cons a)).trans (.swap _ _ _)
  have nd2:(b::a::(S.erase a).erase b).Nodup:=p2.nodup_iff.mp nd
  have z:=y0Z O (i:=a) (R:=(S.erase a).erase b) (av.mp nd2).2 (fun t ht=>lt t (p2.mem_iff.mpr (ag _ ht))) (by
   have:=p2.length_eq
   simp only [aY]at this
   omega) (z:=fun t=>vt s S b*x t - x b*vt s S t) fun y hy=>by
    have hyS:y∈S:=p2.mem_iff.mpr (ag _ (ag _ hy))
    have e1:z0V S (fun t=>s y t*(vt s S b*x t - x b*vt s S t))=0:=by
     have a1:(fun t=>s y t*(vt s S b*x t - x b*vt s S t))=fun t=>vt s S b*(s y t*x t) + -x b*(s y t*vt s S t):=funext fun t=>by grind
     rw [a1,y8a,ls_mul,ls_mul,←y8e nd,y6I O.sk hyS]
     have a2:=E.eq y (lt y hyS) (ps y hyS)
     rw [z8B E.nn,←hS]at a2
     rw [a2]
     omega
    rw [y2a p2,z0P]at e1
    have e2:s y b*(vt s S b*x b - x b*vt s S b)=0:=by
     rw [cD (vt s S b)]
     simp
    omega
  omega
theorem ev_ker(O:OddPf s m)(E:Ev s m x):∃ε:Int,(ε=1∨ε = -1)∧(∀t∈z3F m x,0<ε*vt s (z3F m x) t)∧(∀i,i<m->i∉z3F m x->ε*z0V (z3F m x) (fun t=>s i t*vt s (z3F m x) t)<0):=by
 have nd:=z7H (m:=m) (x:=x)
 have lt:=z5K (m:=m) (x:=x)
 have ps:=z6t (m:=m) (x:=x)
 have od:=y3v O E
 have pr:=fun {a b:Nat}=>y1K O E (a:=a) (b:=b)
 obtain⟨S,hS⟩:∃S,S=z3F m x:=⟨_,rfl⟩
 rw [←hS]at nd lt ps od ⊢
 have pr:∀{a b:Nat},a∈S->b∈S->vt s S b*x a=x b*vt s S a:=by rw [hS];exact pr
 obtain⟨b,hb⟩:∃b,b∈S:=by
  cases h:S with
  |nil=>rw [h]at od;cases od
  |cons a r=>exact⟨a,ah⟩
 have hv:∀t∈S,vt s S t≠0:=fun t ht h=>by
  have hk:idx S t<S.length:=eD ht
  have:=O.one (S.eraseIdx (idx S t)) (nd.sublist (cG _ _)) (fun y hy=>lt y (bM hy)) (by rw [bn,if_pos hk];omega)
  unfold vt at h
  rcases z5S (idx S t)with e | e <;> rw [e]at h <;> omega
 have xb:=ps b hb
 obtain⟨ε,he,hε⟩:∃ε:Int,(ε=1∨ε = -1)∧0<ε*vt s S b:=by
  by_cases h:0<vt s S b
  ·exact⟨1,.inl rfl,by omega⟩
  ·exact⟨-1,.inr rfl,by have:=hv b hb;omega⟩
 refine⟨ε,he,fun t ht=>?_,fun i hi hn=>?_⟩
 ·have h1:=pr ht hb
  have h2:=bJ hε (ps t ht)
  have h3:x b*(ε*vt s S t)=ε*vt s S b*x t:=by grind
  rw [←h3,cD]at h2
  exact e8 h2 xb
 ·have h1:=O.two i S (av.mpr ⟨hn,nd⟩) (fun y hy=>by
   rcases ai.mp hy with rfl | hy
   ·exact hi
   ·exact lt y hy) od
  rw [y8e nd]at h1
  have h2:=E.le i hi
  rw [z8B E.nn,←hS]at h2
  have h3:x b*z0V S (fun t=>s i t*vt s S t)=vt s S b*z0V S (fun t=>s i t*x t):=by
   rw [←ls_mul,←ls_mul]
   refine z0X fun t ht=>?_
   have:=pr ht hb
   grind
  obtain⟨g,hg⟩:∃g,g=z0V S (fun t=>s i t*vt s S t):=⟨_,rfl⟩
  obtain⟨u,hu⟩:∃u,u=z0V S (fun t=>s i t*x t):=⟨_,rfl⟩
  rw [←hg]at h1 h3 ⊢
  rw [←hu]at h2 h3
  have h4:x b*(ε*g)=ε*vt s S b*u:=by grind
  have h5:ε*vt s S b*u≤0:=Int.mul_nonpos_of_nonneg_of_nonpos (by omega) h2
  have h6:ε*g≠0:=fun z=>by
   rcases dm.mp z with z | z
   ·omega
   ·rw [z]at h1;cases h1
  by_cases z:ε*g<0
  ·exact z
  ·have:=bJ xb (show 0<ε*g by omega)
   omega
end
theorem y9Z{m:Nat}{L:List Nat}(nd:L.Nodup)(h:∀x∈L,x<m):L.length≤m:=by
 have:=List.Nodup.length_le_of_subset nd (l₂:=ad m) fun x hx=>ae.mpr (h x hx)
 rwa [aW]at this
theorem x2J{T:List (List Bool)}{m:Nat}(F:Full m T)(hm:m≤8):OddPf (sk2 T m) m where
 sk:=z4Z
 one:=fun L nd h he=>by
  have hl:=y9Z nd h
  rw [←y0g F (c:=L.length / 2) nd h (by omega) (by omega)]
  exact y4A (c:=L.length / 2) (by omega)
 two:=fun i R nd h he=>by
  have hl:=y9Z nd h
  have hl':R.length+1≤m:=hl
  show Pf (sk2 T m) 13 (i::R) % 2=1
  rw [←y0g F (c:=(R.length+1) / 2) nd h (by show R.length+1=_;omega) (by omega)]
  exact y4A (c:=(R.length+1) / 2) (by show R.length+1=_;omega)
theorem y8z{T:List (List Bool)}{S:List Nat}:∀{n:Nat} {L:List Nat},(∀k∈L,k<S.length)->pfS (z0x S (at2 T)) n L=pfS T n (L.map fun k=>S.getD k 0)
 |0,_,_=>rfl
 |n+1,[],_=>rfl
 |n+1,x::r,h=>by
  show((ad r.length).map fun k=>sg k*sgn (z0x S (at2 T)) x (r.getD k 0)*pfS (z0x S (at2 T)) n (r.eraseIdx k)).sum=((ad (r.map fun k=>S.getD k 0).length).map fun k=>sg k*sgn T (S.getD x 0) ((r.map fun k=>S.getD k 0).getD k 0)*pfS T n ((r.map fun k=>S.getD k 0).eraseIdx k)).sum
  rw [am]
  refine z7e fun k hk=>?_
  have hk:=ae.mp hk
  have hy:r.getD k 0∈r:=by
   rw [au,ac hk]
   exact aR hk
  have e1:(r.map fun k=>S.getD k 0).getD k 0=S.getD (r.getD k 0) 0:=by simp [aJ,ac hk]
  have e2:sgn (z0x S (at2 T)) x (r.getD k 0)=sgn T (S.getD x 0) (S.getD (r.getD k 0) 0):=by
   unfold sgn
   rw [z6A (h x ah) (h _ (ag _ hy))]
  rw [e1,e2,y8z (n:=n) fun j hj=>h j (ag _ (bM hj)),z7n]
theorem rng_map{S:List Nat}:(ad S.length).map (fun k=>S.getD k 0)=S:=by
 apply bb
 ·simp
 ·intro i h1 h2
  simp [aJ,ac h2]
theorem er_map{S:List Nat}{k:Nat}:((ad S.length).eraseIdx k).map (fun k=>S.getD k 0)=S.eraseIdx k:=by rw [←z7n,rng_map]
theorem x0k{T:List (List Bool)}{m c:Nat}(F:Full m T){S:List Nat}(nd:S.Nodup)(hlt:∀x∈S,x<m)(hl:S.length=2*c+1)(hc:c≤3):x1R (z0x S (at2 T)) S.length=S.map (vt (sk2 T m) S):=by
 apply bb
 ·rw [y6k,am]
 ·intro k h1 h2
  have hk:k<S.length:=by simpa using h2
  have e1:=ker_at (T:=z0x S (at2 T)) hk
  rw [au,ac (by rw [y6k];exact hk)]at e1
  have e1:(x1R (z0x S (at2 T)) S.length)[k]=sg k*pfS (z0x S (at2 T)) 12 ((ad S.length).eraseIdx k):=e1
  rw [e1,cI,y8z fun j hj=>ae.mp (bM hj),er_map]
  have hi:=y6y nd hk
  rw [au,ac hk]at hi
  have hi:idx S S[k]=k:=hi
  unfold vt
  rw [hi,y0g F (c:=c) (nd.sublist (cG _ k)) (fun x hx=>hlt x (bM hx)) (by rw [bn,if_pos hk];omega) (by omega)]
def dfI:Nat->Int
 |0=>1
 |c+1=>(2*(c:Int)+1)*dfI c
theorem pf_df{T:List (List Bool)}:∀{n c:Nat} {L:List Nat},L.length=2*c->-dfI c≤pfS T n L∧pfS T n L≤dfI c
 |_,0,L,h=>by
  have:L=[]:=bP.mp (by omega)
  subst this
  rename_i n
  have e:pfS T n []=1:=by cases n <;> rfl
  rw [e]
  decide
 |0,c+1,L,h=>by
  have h1:∀c,1≤dfI c:=fun c=>by
   induction c with
   |zero=>decide
   |succ c ih=>
    have:=eM (show(1:Int)≤2*(c:Int)+1 by omega) ih (by omega) (by omega)
    exact this
  have:=h1 (c+1)
  show -dfI (c+1)≤1∧(1:Int)≤dfI (c+1)
  omega
 |n+1,c+1,[],h=>by simp at h
 |n+1,c+1,x::r,h=>by
  have hr:r.length=2*c+1:=by simp at h;omega
  have:=z7z (c:=r.length) (B:=dfI c) (f:=fun k=>sg k*sgn T x (r.getD k 0)*pfS T n (r.eraseIdx k)) fun k hk=>by
   have b:=pf_df (T:=T) (n:=n) (c:=c) (L:=r.eraseIdx k) (by rw [bn,if_pos hk];omega)
   show -dfI c≤sg k*sgn T x (r.getD k 0)*pfS T n (r.eraseIdx k)∧sg k*sgn T x (r.getD k 0)*pfS T n (r.eraseIdx k)≤dfI c
   rcases z5S k with h | h <;> rcases z5H T x (r.getD k 0)with h' | h' <;> rw [h,h'] <;> omega
  have e:dfI (c+1)=(r.length:Int)*dfI c:=by
   show(2*(c:Int)+1)*dfI c=_
   rw [hr]
   rfl
  rw [e]
  exact this
theorem df_15{c:Nat}(h:c≤3):dfI c≤15:=by
 rcases c with _ | _ | _ | _ | c
 ·decide
 ·decide
 ·decide
 ·decide
 ·omega
theorem vt_of{T:List (List Bool)}{m c:Nat}(F:Full m T){S:List Nat}(nd:S.Nodup)(hlt:∀x∈S,x<m)(hl:S.length=2*c+1)(hc:c≤3){t:Nat}(ht:t∈S):vt (sk2 T m) S t % 2=1∧(vt (sk2 T m) S t).natAbs≤15:=by
 have hk:idx S t<S.length:=eD ht
 have hle:(S.eraseIdx (idx S t)).length=2*c:=by rw [bn,if_pos hk];omega
 unfold vt
 rw [←y0g F (c:=c) (nd.sublist (cG _ _)) (fun x hx=>hlt x (bM hx)) hle (by omega)]
 have h1:=y4A (T:=T) (n:=12) hle
 have h2:=pf_df (T:=T) (n:=12) hle
 have h3:=df_15 hc
 rcases z5S (idx S t)with h | h <;> rw [h] <;> omega
theorem two_eq{a b:Nat}(hb:b≤90):z1n [.int (a:Int),.int (b:Int)]=some (.int ((eE a b:Nat):Int)):=by
 refine z0r rfl ?_
 simp! only [z1S]
 refine z0v (I:=fun s=>∃o1 o2,s=[some (.sh (.int ((eE a b:Nat):Int))),o1,o2]) ?_ ?_
 ·refine z3V (fun n s=>∃(x y:Nat) (o2:Option SD),s=[some (.sh (.int (x:Int))),some (.sh (.int (y:Int))),o2]∧eE x y=eE a b∧y≤n) (n:=b) ⟨a,b,_,rfl,rfl,ao _⟩ ?_ (by omega)
  rintro n s ⟨x,y,o2,rfl,hg,hy⟩
  refine⟨decide ((y:Int)>0),by simp! only [],fun hk=>?_,fun hk=>?_⟩
  ·have hk:=of_decide_eq_false hk
   have:y=0:=by omega
   subst this
   rw [Nat.gcd_zero_right]at hg
   exact⟨_,rfl,_,_,by rw [hg]⟩
  ·have hk:=of_decide_eq_true hk
   have md:z6v (.int (x:Int)) (.int (y:Int))=some (.int ((x % y:Nat):Int)):=z4v (by omega)
   refine⟨n - 1,by omega,?_⟩
   simp! only [md,z0b]
   refine⟨y,x % y,_,rfl,?_,?_⟩
   ·rw [←hg,Nat.gcd_comm x y,Nat.gcd_rec y x,Nat.gcd_comm]
   ·have:=Nat.mod_lt x (show 0<y by omega)
    omega
 ·rintro s ⟨o1,o2,rfl⟩
  simp! only [z0b]
def gcL(vs:List Int):Nat:=vs.foldl (fun g v=>eE g v.natAbs) 0
theorem y3b{vs:List Int}{v:Int}:gcL (vs++[v])=eE (gcL vs) v.natAbs:=by
 unfold gcL
 rw [List.foldl_append]
 rfl
theorem y8V{vs:List Int}(h:∀v∈vs,v.natAbs≤90):z1l [z1B vs]=some (.int ((gcL vs:Nat):Int)):=by
 refine z0r rfl ?_
 have sq:y4W (z1B vs)=some (vs.map .int):=rfl
 simp! only [z1Q,sq]
 refine z0v (I:=fun s=>∃o2,s=[some (.sh (z1B vs)),some (.sh (.int ((gcL vs:Nat):Int))),o2]) (z2I (enc:=D.int) (xs:=vs) (fun pre s=>∃o2,s=[some (.sh (z1B vs)),some (.sh (.int ((gcL pre:Nat):Int))),o2]) ⟨_,rfl⟩ ?_ fun s z=>⟨s,rfl,z⟩) ?_
 ·rintro pre v post e s ⟨o2,rfl⟩
  have ab:absF [.int v]=some (.int ((v.natAbs:Nat):Int)):=by
   show some (D.int (if v<0 then -v else v))=_
   congr 2
   split <;> omega
  simp! only [ab,two_eq (a:=gcL pre) (h v (by rw [e];simp)),y3b,z0b]
  exact⟨_,rfl⟩
 ·rintro s ⟨o2,rfl⟩
  simp! only [z0b]
theorem x2D{vs:List Int}:∀v∈vs,gcL vs∣v.natAbs:=by
 have h:∀(r vs:List Int),vs=r.reverse->∀v∈vs,gcL vs∣v.natAbs:=by
  intro r
  induction r with
  |nil=>rintro vs rfl v hv;cases hv
  |cons a r ih=>
   rintro vs rfl v hv
   rw [cv]at hv ⊢
   rw [y3b]
   rcases ay.mp hv with hv | hv
   ·exact Nat.dvd_trans (Nat.gcd_dvd_left _ _) (ih _ rfl v hv)
   ·rw [ax.mp hv]
    exact Nat.gcd_dvd_right _ _
 exact h vs.reverse vs (cg vs).symm
theorem y1Y{α:Type}{ea eb:α->D}{i j:Nat}{b:SS->Option Out}{QO:Out->Prop}{xs:List α}(I:List α->SS->Prop)(hs:∀pre x post,xs=pre++x::post->∀δ,I pre δ->hol (b ((δ.set i (some (.sh (ea x)))).set j (some (.sh (eb x))))) fun o=>match o with | .nx δ'=>I (pre++[x]) δ' | .ct δ'=>I (pre++[x]) δ' | .bk δ'=>QO (.nx δ') | .rt d=>QO (.rt d) | .rb d δ'=>QO (.rb d δ') | .ex c δ'=>QO (.ex c δ'))(he:∀δ,I xs δ->QO (.nx δ)):
  ∀{post pre:List α} {s:SS},xs=pre++post->I pre s->hol (z4K i j b (post.map fun z=>.tup [ea z,eb z]) s) QO
 |[],pre,s,e,h=>⟨_,rfl,he s (by rw [e,aP];exact h)⟩
 |x::post,pre,s,e,h=>by
  obtain⟨o,eo,q⟩:=hs pre x post e s h
  rw [aG]
  unfold z4K
  show hol ((b ((s.set i (some (.sh (ea x)))).set j (some (.sh (eb x))))).bind _) QO
  rw [eo]
  have e3:xs=(pre++[x])++post:=by rw [e];simp
  cases o with
  |nx s1=>exact y1Y I hs he e3 q
  |ct s1=>exact y1Y I hs he e3 q
  |bk s1=>exact⟨_,rfl,q⟩
  |rt d=>exact⟨_,rfl,q⟩
  |rb d s1=>exact⟨_,rfl,q⟩
  |ex c s1=>exact⟨_,rfl,q⟩
theorem zip_v{v:Nat->Int}:∀{S:List Nat},y5E (S.map nD) ((S.map v).map .int)=S.map fun t=>.tup [nD t,.int (v t)]
 |[]=>rfl
 |t::r=>by
  show D.tup [nD t,.int (v t)]::y5E (r.map nD) ((r.map v).map .int)=_
  rw [zip_v]
  rfl
def z2i(m:Nat)(S:List Nat)(f:Nat->Int):List Int:=(ad m).map fun t=>if S.contains t=true then f t else 0
theorem z2h{m:Nat}{S:List Nat}{f:Nat->Int}:(z2i m S f).length=m:=by simp [z2i]
theorem z6S{m:Nat}{S:List Nat}{f:Nat->Int}{t:Nat}(h:t<m):(z2i m S f).getD t 0=if S.contains t=true then f t else 0:=by
 unfold z2i
 simp [aJ,ac,h]
theorem z7f{m:Nat}{S:List Nat}{f:Nat->Int}{t:Nat}(h:t<(z2i m S f).length):(z2i m S f)[t]=if S.contains t=true then f t else 0:=by
 have e:=z6S (m:=m) (S:=S) (f:=f) (t:=t) (by rw [z2h]at h;exact h)
 rw [au,ac h]at e
 exact e
theorem y5t{m:Nat}{S:List Nat}{f:Nat->Int}{t:Nat}:(z2i m S f).set t (f t)=z2i m (S++[t]) f:=by
 apply bb
 ·rw [cQ,z2h,z2h]
 ·intro i h1 h2
  rw [List.getElem_set,z7f h2]
  by_cases h:t=i
  ·subst h
   rw [if_pos rfl,if_pos (by simp)]
  ·rw [if_neg h,z7f]
   have e:(S++[t]).contains i=S.contains i:=by
    simp
    exact fun z=>absurd z.symm h
   rw [e]
theorem y5r{m:Nat}{f:Nat->Int}:z2i m [] f=ak m 0:=by
 apply bb
 ·rw [z2h,dl]
 ·intro i h1 h2
  rw [z7f,List.getElem_replicate]
  rfl
theorem st_intW{o:List Int}{k:Nat}{x:Int}(h:k<o.length):st0V (some (z1B o)) (some (.int (k:Int))) (some (.int x))=some (z1B (o.set k x)):=by
 show(ixN (o.map D.int).length (k:Int)).map (fun j=>D.lst ((o.map D.int).set j (.int x)))=_
 rw [x3a (by simpa using h),bH,←dN]
 rfl
def dvS(T:List (List Bool))(m:Nat)(S:List Nat):Int:=if vt (sk2 T m) S (S.getD 0 0)<0 then -((gcL (S.map (vt (sk2 T m) S)):Nat):Int)else((gcL (S.map (vt (sk2 T m) S)):Nat):Int)
def wtS(T:List (List Bool))(m:Nat)(S:List Nat):List Int:=z2i m S fun t=>(vt (sk2 T m) S t).fdiv (dvS T m S)
structure Od(m:Nat)(S:List Nat):Prop where
 nd:S.Nodup
 lt:∀x∈S,x<m
 odd:S.length % 2=1
theorem Od.half{m:Nat}{S:List Nat}(O:Od m S)(hm:m≤8):∃c,S.length=2*c+1∧c≤3:=⟨S.length / 2,by have:=O.odd;omega,by have:=y9Z O.nd O.lt;have:=O.odd;omega⟩
theorem Od.v{T:List (List Bool)}{m:Nat}(F:Full m T)(hm:m≤8){S:List Nat}(O:Od m S){t:Nat}(ht:t∈S):vt (sk2 T m) S t % 2=1∧(vt (sk2 T m) S t).natAbs≤15:=by
 obtain⟨c,h1,h2⟩:=O.half hm
 exact vt_of F O.nd O.lt h1 h2 ht
theorem Od.first{m:Nat}{S:List Nat}(O:Od m S):S.getD 0 0∈S:=by
 have h:0<S.length:=by have:=O.odd;omega
 rw [au,ac h]
 exact aR h
theorem Od.gc{T:List (List Bool)}{m:Nat}(F:Full m T)(hm:m≤8){S:List Nat}(O:Od m S):0<gcL (S.map (vt (sk2 T m) S))∧gcL (S.map (vt (sk2 T m) S))≤15:=by
 have hd:=x2D (vs:=S.map (vt (sk2 T m) S)) _ (aK.mpr ⟨_,O.first,rfl⟩)
 have hv:=O.v F hm O.first
 have hp:0<(vt (sk2 T m) S (S.getD 0 0)).natAbs:=by omega
 exact⟨Nat.pos_of_dvd_of_pos hd hp,ba (Nat.le_of_dvd hp hd) hv.2⟩
theorem wton_eq{T:List (List Bool)}{m:Nat}(F:Full m T)(hm:m≤8){S:List Nat}(O:Od m S):z2A [z0A T,thD S]=some (z1B (wtS T m S)):=by
 refine z0r rfl ?_
 obtain⟨c,hl,hc⟩:=O.half hm
 have pt:=y2R F.sq (th:=S) (by omega) O.lt
 have ke:=y9C (z5w (th:=S) (f:=at2 T)) hl hc
 rw [hl]at ke
 have kp:=x0k F O.nd O.lt hl hc
 rw [hl]at kp
 rw [kp]at ke
 obtain⟨v,hv⟩:∃v,v=vt (sk2 T m) S:=⟨_,rfl⟩
 have bd:∀t∈S,(v t).natAbs≤15:=fun t ht=>by rw [hv];exact(O.v F hm ht).2
 have gp:=O.gc F hm
 have cm:=y8V (vs:=S.map v) fun x hx=>by
  obtain⟨t,ht,rfl⟩:=aK.mp hx
  have:=bd t ht
  omega
 have i0:ixD (z1B (S.map v)) (.int 0)=some (.int (v (S.getD 0 0))):=by
  have:=y4P (ws:=S.map v) (k:=0) (by rw [am];omega)
  have e:(S.map v).getD 0 0=v (S.getD 0 0):=by
   have h0:0<S.length:=by omega
   simp [aJ,ac h0]
  rw [e]at this
  exact this
 obtain⟨g,hg⟩:∃g,g=gcL (S.map v):=⟨_,rfl⟩
 rw [←hv]at ke gp
 rw [←hg]at cm gp
 have hdv:dvS T m S=if v (S.getD 0 0)<0 then -((g:Nat):Int)else((g:Nat):Int):=by unfold dvS;rw [←hv,←hg]
 obtain⟨d,hd⟩:∃d,d=dvS T m S:=⟨_,rfl⟩
 rw [←hd]at hdv
 have rp:repO (some (.lst [.int 0])) (some (.int (m:Int)))=some ((ak m (0:Int)).map .int):=by rw [y2m (by omega),dJ]
 have hw:wtS T m S=z2i m S fun t=>(v t).fdiv d:=by unfold wtS;rw [←hv,←hd]
 rw [hw]
 simp! only [z3K,pt,ke,cm,i0]
 refine z0v (I:=fun s=>s=[some (.sh (z0A T)),some (.sh (thD S)),some (.sh (z1B (S.map v))),some (.sh (.int d)),none,none,none]) ?_ ?_
 ·by_cases h:v (S.getD 0 0)<0
  ·rw [decide_eq_true h]
   simp! only [z0b]
   refine⟨_,rfl,?_⟩
   rw [hdv,if_pos h]
  ·rw [decide_eq_false h]
   simp! only [z0b]
   refine⟨_,rfl,?_⟩
   rw [hdv,if_neg h]
 ·rintro s rfl
  have fl:z6d (some ((ak m (0:Int)).map D.int))=some ((ak m (0:Int)).map D.int):=z1T (z6p _)
  have zp:zpO (some (thD S)) (some (z1B (S.map v)))=some (S.map fun t=>.tup [nD t,.int (v t)]):=by
   show some (y5E (S.map nD) ((S.map v).map .int))=_
   rw [zip_v]
  have li:D.lst ((ak m (0:Int)).map .int)=z1B (z2i m [] fun t=>(v t).fdiv d):=by rw [y5r];rfl
  simp! only [z1d,F.sq.1,rp,fl,li,ev_zip,zp]
  refine z0v (I:=fun s=>∃o5 o6,s=[some (.sh (z0A T)),some (.sh (thD S)),some (.sh (z1B (S.map v))),some (.sh (.int d)),some (.ow (z1B (z2i m S fun t=>(v t).fdiv d))),o5,o6]) ?_ ?_
  ·refine y1Y (ea:=nD) (eb:=fun t=>.int (v t)) (fun pre s=>∃o5 o6,s=[some (.sh (z0A T)),some (.sh (thD S)),some (.sh (z1B (S.map v))),some (.sh (.int d)),some (.ow (z1B (z2i m pre fun t=>(v t).fdiv d))),o5,o6]) ?_ (fun s z=>⟨s,rfl,z⟩) (pre:=[]) rfl ⟨_,_,rfl⟩
   rintro pre t post e s ⟨o5,o6,rfl⟩
   have ht:t∈S:=by rw [←cP S,e];simp
   have dn:divN (.int (v t)) (.int d)=some (.int ((v t).fdiv d)):=by
    refine if_pos ⟨?_,?_⟩
    ·rw [hdv];split <;> omega
    ·rw [hdv];split <;> omega
   simp! only [nD,dn,st_intW (show t<(z2i m pre fun t=>(v t).fdiv d).length by rw [z2h];exact O.lt t ht),y5t (f:=fun t=>(v t).fdiv d),z0b]
   exact⟨_,_,rfl⟩
  ·rintro s ⟨o5,o6,rfl⟩
   simp! only [z0b]
theorem y2N{ns:List Int}:∀{k i:Nat},i≤k->ns.getD (bst ns k) 0≤ns.getD i 0
 |0,i,h=>by
  have:i=0:=by omega
  subst this
  exact cO _
 |k+1,i,h=>by
  unfold bst
  by_cases hc:ns.getD (k+1) 0<ns.getD (bst ns k) 0
  ·rw [if_pos (decide_eq_true hc)]
   by_cases hi:i=k+1
   ·rw [hi];exact cO _
   ·have:=y2N (ns:=ns) (k:=k) (i:=i) (by omega)
    omega
  ·rw [if_neg (by simpa using hc)]
   by_cases hi:i=k+1
   ·rw [hi];omega
   ·exact y2N (by omega)
theorem x2K{ns:List Int}:∀k,bst ns k≤k
 |0=>ao 0
 |k+1=>by
  unfold bst
  split
  ·exact ao _
  ·have:=x2K (ns:=ns) k;omega
theorem z8S{ns:List Int}:∀{k i:Nat},i≤k->ns.getD i 0≤ns.getD (y5C ns k) 0
 |0,i,h=>by
  have:i=0:=by omega
  subst this
  exact cO _
 |k+1,i,h=>by
  unfold y5C
  by_cases hc:ns.getD (k+1) 0>ns.getD (y5C ns k) 0
  ·rw [if_pos (decide_eq_true hc)]
   by_cases hi:i=k+1
   ·rw [hi];exact cO _
   ·have:=z8S (ns:=ns) (k:=k) (i:=i) (by omega)
    omega
  ·rw [if_neg (by simpa using hc)]
   by_cases hi:i=k+1
   ·rw [hi];omega
   ·exact z8S (by omega)
theorem y7M{ns:List Int}:∀k,y5C ns k≤k
 |0=>ao 0
 |k+1=>by
  unfold y5C
  split
  ·exact ao _
  ·have:=y7M (ns:=ns) k;omega
theorem y8P{ns:List Int}{k:Nat}(h:k<ns.length):ns.getD k 0∈ns:=by
 rw [au,ac h]
 exact aR h
theorem mn_mem{ns:List Int}(h:ns≠[]):mnI ns∈ns∧∀x∈ns,mnI ns≤x:=by
 have hp:=bS.mpr h
 refine⟨y8P (by have:=x2K (ns:=ns) (ns.length - 1);omega),fun x hx=>?_⟩
 obtain⟨i,hi,rfl⟩:=bj.mp hx
 have h1:=y2N (ns:=ns) (k:=ns.length - 1) (i:=i) (by omega)
 have e:ns.getD i 0=ns[i]:=by rw [au,ac hi];rfl
 unfold mnI
 omega
theorem mx_mem{ns:List Int}(h:ns≠[]):mxI ns∈ns∧∀x∈ns,x≤mxI ns:=by
 have hp:=bS.mpr h
 refine⟨y8P (by have:=y7M (ns:=ns) (ns.length - 1);omega),fun x hx=>?_⟩
 obtain⟨i,hi,rfl⟩:=bj.mp hx
 have h1:=z8S (ns:=ns) (k:=ns.length - 1) (i:=i) (by omega)
 have e:ns.getD i 0=ns[i]:=by rw [au,ac hi];rfl
 unfold mxI
 omega
def evA(T:List (List Bool))(m:Nat)(ws:List Int)(t:Nat):Bool:=if 0<ws.getD t 0 then decide (scr T ws m t=0)else decide (scr T ws m t<0)
def evB(T:List (List Bool))(m:Nat)(ws:List Int):Bool:=!(decide (mnI ws<0)||decide (mxI ws=0))&&(ad m).all fun t=>evA T m ws t
theorem evat_eq{m:Nat}{T:List (List Bool)}(sq:Sq m T)(hm:m≤1000){ws:List Int}(hw:ws.length=m){t:Nat}(ht:t<m):z1O [z0A T,z1B ws,.int (t:Int)]=some (.bl (evA T m ws t)):=by
 refine z0r rfl ?_
 have ix:=y4P (ws:=ws) (k:=t) (by omega)
 have sc:=x1n sq hm hw ht
 unfold evA
 by_cases h:0<ws.getD t 0
 ·have h':decide (ws.getD t 0>0)=true:=decide_eq_true h
  rw [if_pos h]
  simp_all! only [z2u,ix,h',sc,z0b]
 ·have h':decide (ws.getD t 0>0)=false:=decide_eq_false h
  rw [if_neg h]
  simp_all! only [z2u,ix,h',sc,z0b]
theorem y9y{m:Nat}{T:List (List Bool)}(sq:Sq m T)(h0:0<m)(hm:m≤1000){ws:List Int}(hw:ws.length=m):z4V [z0A T,z1B ws]=some (.bl (evB T m ws)):=by
 refine z0r rfl ?_
 have hne:ws≠[]:=fun z=>by rw [z]at hw;simp at hw;omega
 unfold evB
 have cx:z2c (some (z4p 0 m)) (z2e z3x (z0i z1O [z0d 0,z0d 1,z0d 2]) [some (z0A T),some (z1B ws)])=some (((ad m).map fun t=>evA T m ws t).map bD):=by
  rw [z2G,aL]
  exact z1W (fun t=>bD (evA T m ws t)) (by simp;omega) fun t ht=>by simp! only [nD,evat_eq sq hm hw (ae.mp ht),bD]
 simp! only [z7m,min_in hne,max_in hne]
 cases h:(decide (mnI ws<0)||decide (mxI ws=0))with
 |true=>simp_all! only [z0b]
 |false=>
  simp_all! only [z1d,sq.1,z1m (show m≤1000000 by omega),cx,y2Y,z0b]
  rw [e7]
  rfl
theorem z5P{m:Nat}{T:List (List Bool)}{ws:List Int}(h0:0<m)(hw:ws.length=m):evB T m ws=true↔(∀t,t<m->0≤ws.getD t 0)∧(∃t,t<m∧0<ws.getD t 0)∧(∀t,t<m->0<ws.getD t 0->scr T ws m t=0)∧∀t,t<m->¬ 0<ws.getD t 0->scr T ws m t<0:=by
 have hne:ws≠[]:=fun z=>by rw [z]at hw;simp at hw;omega
 obtain⟨n1,n2⟩:=mn_mem hne
 obtain⟨x1,x2⟩:=mx_mem hne
 have hel:∀x,x∈ws↔∃t,t<m∧ws.getD t 0=x:=fun x=>by
  rw [bj]
  constructor
  ·rintro⟨i,hi,rfl⟩
   exact⟨i,by omega,by simp [aJ,ac hi]⟩
  ·rintro⟨t,ht,rfl⟩
   exact⟨t,by omega,by simp [aJ,ac (show t<ws.length by omega)]⟩
 unfold evB
 rw [aH,dO,Bool.or_eq_false_iff,decide_eq_false_iff_not,decide_eq_false_iff_not,aV]
 constructor
 ·rintro⟨⟨h1,h2⟩,h3⟩
  have nn:∀t,t<m->0≤ws.getD t 0:=fun t ht=>by
   have:=n2 _ ((hel _).mpr ⟨t,ht,rfl⟩)
   omega
  refine⟨nn,?_,fun t ht hp=>?_,fun t ht hp=>?_⟩
  ·obtain⟨t,ht,e⟩:=(hel _).mp x1
   have:=nn t ht
   exact⟨t,ht,by omega⟩
  ·have:=h3 t (ae.mpr ht)
   unfold evA at this
   rw [if_pos hp]at this
   exact of_decide_eq_true this
  ·have:=h3 t (ae.mpr ht)
   unfold evA at this
   rw [if_neg hp]at this
   exact of_decide_eq_true this
 ·rintro⟨nn,⟨p,hp,hpp⟩,h3,h4⟩
  refine⟨⟨?_,?_⟩,fun t ht=>?_⟩
  ·obtain⟨t,ht,e⟩:=(hel _).mp n1
   have:=nn t ht
   omega
  ·have:=x2 _ ((hel _).mpr ⟨p,hp,rfl⟩)
   omega
  ·have ht:=ae.mp ht
   unfold evA
   by_cases h:0<ws.getD t 0
   ·rw [if_pos h]
    exact decide_eq_true (h3 t ht h)
   ·rw [if_neg h]
    exact decide_eq_true (h4 t ht h)
def pkL(L:List Nat):List (List Nat):=L.foldl (fun P t=>P++P.map (· ++ [t])) [[]]
theorem z9p{L:List Nat}{t:Nat}:pkL (L++[t])=pkL L++(pkL L).map (· ++ [t]):=by
 unfold pkL
 rw [List.foldl_append]
 rfl
theorem x2V:∀(r:List Nat),(pkL r.reverse).length=2 ^ r.length
 |[]=>rfl
 |t::r=>by
  rw [cv,z9p,aF,am,x2V r,aY,Nat.pow_succ]
  omega
theorem y4g:∀(r:List Nat),∀S∈pkL r.reverse,S.Sublist r.reverse∧S.length≤r.length
 |[],S,h=>by
  rw [ax.mp h]
  exact⟨.slnil,ao _⟩
 |t::r,S,h=>by
  rw [cv,z9p,ay]at h
  rw [cv]
  rcases h with h | h
  ·obtain⟨h1,h2⟩:=y4g r S h
   exact⟨h1.trans (List.sublist_append_left _ _),by rw [aY];omega⟩
  ·obtain⟨S',h',rfl⟩:=aK.mp h
   obtain⟨h1,h2⟩:=y4g r S' h'
   exact⟨h1.append (List.Sublist.refl _),by rw [aF];show S'.length+1≤r.length+1;omega⟩
theorem x3q{p:Nat->Bool}:∀(r:List Nat),r.reverse.filter p∈pkL r.reverse
 |[]=>ah
 |t::r=>by
  rw [cv,z9p,dL,ay]
  have ih:=x3q (p:=p) r
  cases h:p t with
  |true=>
   right
   have e:[t].filter p=[t]:=by simp [h]
   rw [e]
   exact aK.mpr ⟨_,ih,rfl⟩
  |false=>
   left
   have e:[t].filter p=[]:=by simp [h]
   rw [e,aP]
   exact ih
def opB(S:List Nat):Bool:=decide (((S.length:Int)) % 2=1)
theorem x1I{L:List Nat}(hl:L.length≤8):z3i [thD L]=some (.lst (((pkL L).filter opB).map thD)):=by
 refine z0r rfl ?_
 have hlen:∀pre post:List Nat,L=pre++post->(pkL pre).length≤256∧∀S∈pkL pre,S.length≤8:=fun pre post e=>by
  have h1:=x2V pre.reverse
  have h2:=y4g pre.reverse
  rw [cg,List.length_reverse]at h1 h2
  have h3:pre.length≤8:=by rw [e,aF]at hl;omega
  refine⟨?_,fun S hS=>by have:=(h2 S hS).2;omega⟩
  rw [h1]
  exact fD (n:=2) (by omega) h3
 have sqp:∀P:List (List Nat),y4W (.lst (P.map thD))=some (P.map thD):=fun _=>rfl
 have fn:z6d (some [])=some []:=rfl
 have st:(D.lst [D.lst []]) = .lst ((pkL []).map thD):=rfl
 simp! only [z4E,fn,st,z3u]
 refine z0v (I:=fun s=>∃o2,s=[some (.sh (thD L)),some (.sh (.lst ((pkL L).map thD))),o2]) (z2I (enc:=nD) (xs:=L) (fun pre s=>∃o2,s=[some (.sh (thD L)),some (.sh (.lst ((pkL pre).map thD))),o2]) ⟨_,rfl⟩ ?_ fun s z=>⟨s,rfl,z⟩) ?_
 ·rintro pre t post e s ⟨o2,rfl⟩
  obtain⟨b1,b2⟩:=hlen pre (t::post) e
  have cx:z2c (some ((pkL pre).map thD)) (z2e z3x (z0w (x2v (z0d 3) (mkL (z0o [z0d 2])))) [some (thD L),some (.lst ((pkL pre).map thD)),some (nD t)])=some (((pkL pre).map (· ++ [t])).map thD):=by
   rw [aL]
   refine z1W (enc:=thD) (xs:=pkL pre) (fun S=>thD (S++[t])) (by omega) fun S hS=>?_
   have c1:x2W (some (thD S)) (some (.lst [nD t]))=some ((S++[t]).map nD):=x3O (a:=S) (b:=[t]) (by have:=b2 S hS;show S.length+1≤_;omega)
   simp! only [c1,z2J,z7p]
  have c2:x2W (some (.lst ((pkL pre).map thD))) (some (.lst (((pkL pre).map (· ++ [t])).map thD)))=some ((pkL (pre++[t])).map thD):=by
   rw [z9p,x3h (by simp only [am];omega),aI]
  simp! only [sqp,cx,c2,z0b]
  exact⟨_,rfl⟩
 ·rintro s ⟨o2,rfl⟩
  obtain⟨b1,b2⟩:=hlen L [] (by simp)
  have cx:∀o:Option D,z2c (some ((pkL L).map thD)) (z2e (z0M (d2 eqD (d2 z6v (z0i z1z [z0d 3]) (dC (.int 2))) (dC (.int 1)))) (z0d 3) [some (thD L),some (.lst ((pkL L).map thD)),o])=some (((pkL L).filter opB).map thD):=fun o=>by
   refine y2W (enc:=thD) (xs:=pkL L) opB thD (by omega) (fun S hS=>?_) fun S hS _=>by simp! only []
   have md:z6v (.int (S.length:Int)) (.int 2)=some (.int ((S.length:Int) % 2)):=z4v (by omega)
   simp! only [z8o,md]
   rfl
  simp! only [sqp,cx,z0b]
theorem y2X{m:Nat}{T:List (List Bool)}(sq:Sq m T){a:Nat}(ha:a<m){th:List Nat}(hl:th.length≤1000)(h:∀x∈th,x<m):z3n [z0A T,.int (a:Int),thD th]=some (.bl (th.all fun j=>at2 T a j)):=by
 refine z0r rfl ?_
 simp! only [z4z,z3u]
 rw [z1W (fun j=>bD (at2 T a j)) hl fun j hj=>by simp! only [nD,ix2 sq ha (h j hj),bD]]
 have e:(th.map fun j=>bD (at2 T a j))=(th.map fun j=>at2 T a j).map bD:=by rw [aL];rfl
 have e2:((th.map fun j=>at2 T a j).all fun b=>b)=th.all fun j=>at2 T a j:=by rw [e7];rfl
 simp! only [e,y2Y,e2,z0b]
def x2d(T:List (List Bool))(m a b:Nat):Bool:=at2 T a b&&((ad m).filter fun j=>at2 T b j).all fun j=>at2 T a j
theorem y8D{m:Nat}{T:List (List Bool)}(sq:Sq m T)(hm:m≤1000){a b:Nat}(ha:a<m)(hb:b<m):z6y [z0A T,.int (a:Int),.int (b:Int)]=some (.bl (x2d T m a b)):=by
 refine z0r rfl ?_
 have hl:((ad m).filter fun j=>at2 T b j).length≤1000:=by
  have:=bE (fun j=>at2 T b j) (ad m)
  rw [aW]at this
  omega
 have b1:=z6K sq hm hb
 have b2:=y2X sq ha (th:=(ad m).filter fun j=>at2 T b j) hl fun x hx=>ae.mp (aj.mp hx).1
 simp! only [z9W,ix2 sq ha hb,b1,b2,z0b]
 rfl
def uncB(T:List (List Bool))(m a:Nat):Bool:=!(ad m).any fun b=>x2d T m b a
def y5D(T:List (List Bool))(m:Nat):List Nat:=(ad m).filter fun a=>uncB T m a
theorem y0D{m:Nat}{T:List (List Bool)}(sq:Sq m T)(hm:m≤1000){a:Nat}(ha:a<m):z2w [z0A T,.int (a:Int)]=some (.bl ((ad m).any fun b=>x2d T m b a)):=by
 refine z0r rfl ?_
 have hr:rng1 (some (.int (m:Int)))=some (z4p 0 m):=by rw [y2O (by omega)];rfl
 simp! only [z3T,z1d,sq.1,hr,z2G]
 rw [z1W (fun b=>bD (x2d T m b a)) (by simp;omega) fun j hj=>by simp! only [nD,y8D sq hm (ae.mp hj) ha,bD]]
 have e:((ad m).map fun b=>bD (x2d T m b a))=((ad m).map fun b=>x2d T m b a).map bD:=by rw [aL];rfl
 have e2:(((ad m).map fun b=>x2d T m b a).any fun b=>b)=(ad m).any fun b=>x2d T m b a:=by rw [cy];rfl
 simp! only [e,x3A,e2,z0b]
theorem y0A{m:Nat}{T:List (List Bool)}(sq:Sq m T)(hm:m≤1000):z3a [z0A T]=some (thD (y5D T m)):=by
 refine z0r rfl ?_
 have hr:rng1 (some (.int (m:Int)))=some (z4p 0 m):=by rw [y2O (by omega)];rfl
 simp! only [z4R,z1d,sq.1,hr,z2G]
 rw [y2W (fun a=>uncB T m a) nD (by simp;omega) (fun j hj=>by simp! only [nD,y0D sq hm (ae.mp hj)];rfl) fun j hj _=>by simp! only []]
 have f1:=z1T (z8f (y5D T m))
 unfold y5D at f1
 simp! only [f1,z0b]
 rfl
theorem fd_of{v d:Int}(hd:d≠0)(h:d∣v):v=d*v.fdiv d:=by
 obtain⟨k,rfl⟩:=h
 rw [Int.mul_fdiv_cancel_left _ hd]
section
variable{T:List (List Bool)}{m:Nat}{S:List Nat}
theorem Od.d(F:Full m T)(hm:m≤8)(O:Od m S):dvS T m S≠0∧∀t∈S,vt (sk2 T m) S t=dvS T m S*(wtS T m S).getD t 0:=by
 have gp:=O.gc F hm
 have hne:dvS T m S≠0:=by unfold dvS;split <;> omega
 refine⟨hne,fun t ht=>?_⟩
 have hdv:dvS T m S∣vt (sk2 T m) S t:=by
  have h1:=x2D (vs:=S.map (vt (sk2 T m) S)) _ (aK.mpr ⟨t,ht,rfl⟩)
  have h2:((gcL (S.map (vt (sk2 T m) S)):Nat):Int)∣vt (sk2 T m) S t:=Int.ofNat_dvd_left.mpr h1
  unfold dvS
  split
  ·exact Int.neg_dvd.mpr h2
  ·exact h2
 unfold wtS
 rw [z6S (O.lt t ht),if_pos (aE.mpr ht)]
 exact fd_of hne hdv
theorem y3c{t:Nat}(ht:t<m)(hn:t∉S):(wtS T m S).getD t 0=0:=by
 unfold wtS
 rw [z6S ht,if_neg (by rw [aE];exact hn)]
theorem y4h:(wtS T m S).length=m:=by unfold wtS;exact z2h
theorem x3w(F:Full m T)(hm:m≤8)(O:Od m S){i:Nat}(hi:i<m):dvS T m S*scr T (wtS T m S) m i=z0V S fun t=>sk2 T m i t*vt (sk2 T m) S t:=by
 rw [z6N hi (ao _)]
 have e1:((ad m).map fun j=>sk2 T m i j*(wtS T m S).getD j 0).sum=z0V ((ad m).filter fun t=>S.contains t) fun j=>sk2 T m i j*(wtS T m S).getD j 0:=by
  refine(y1t (L:=ad m) fun t ht hp=>?_).symm
  have hn:t∉S:=fun z=>by rw [aE.mpr z]at hp;cases hp
  rw [y3c (ae.mp ht) hn,cC]
 have pm:((ad m).filter fun t=>S.contains t).Perm S:=(bg (List.nodup_range.filter _) O.nd).mpr fun t=>by
  rw [aj,ae,aE]
  exact⟨fun h=>h.2,fun h=>⟨O.lt t h,h⟩⟩
 rw [e1,y2a pm,←ls_mul]
 refine z0X fun t ht=>?_
 rw [(O.d F hm).2 t ht]
 ac_rfl
theorem unc_of(F:Full m T){x:Vc}(E:Ev (sk2 T m) m x){t:Nat}(ht:t∈z3F m x):uncB T m t=true:=by
 unfold uncB
 rw [dO,cz]
 intro y hy hc
 have hy:=ae.mp hy
 have htm:=z5K t ht
 have hp:=z6t t ht
 unfold x2d at hc
 rw [aH,aV]at hc
 obtain⟨c1,c2⟩:=hc
 have hyt:y≠t:=fun z=>by rw [z,F.own t htm]at c1;cases c1
 have h1:=E.eq t htm hp
 have h2:=E.le y hy
 have hs:∀j,j<m->sk2 T m t j≤sk2 T m y j:=fun j hj=>by
  unfold sk2
  rw [if_pos (show t<m∧j<m from⟨htm,hj⟩),if_pos (show y<m∧j<m from⟨hy,hj⟩)]
  cases h3:at2 T t j with
  |true=>
   have h4:=c2 j (aj.mpr ⟨ae.mpr hj,h3⟩)
   have hjt:j≠t:=fun z=>by rw [z,F.own t htm]at h3;cases h3
   have hjy:j≠y:=fun z=>by rw [z,F.own y hy]at h4;cases h4
   have h5:=F.two t htm j hj (Ne.symm hjt)
   have h6:=F.two y hy j hj (Ne.symm hjy)
   rw [h3]at h5
   rw [h4]at h6
   have h5:at2 T j t=false:=by cases z:at2 T j t <;> rw [z]at h5 <;> first | rfl | cases h5
   have h6:at2 T j y=false:=by cases z:at2 T j y <;> rw [z]at h6 <;> first | rfl | cases h6
   rw [h4,h5,h6]
   decide
  |false=>
   by_cases hjt:j=t
   ·subst hjt
    have:=F.two y hy j hj hyt
    rw [c1]at this
    have h6:at2 T j y=false:=by cases z:at2 T j y <;> rw [z]at this <;> first | rfl | cases this
    rw [F.own j hj,c1,h6]
    decide
   ·have h5:=F.two t htm j hj (Ne.symm hjt)
    rw [h3]at h5
    have h5:at2 T j t=true:=by cases z:at2 T j t <;> rw [z]at h5 <;> first | rfl | cases h5
    rw [h5]
    cases at2 T y j <;> cases at2 T j y <;> decide
 have ht1:sk2 T m t t=0:=by
  unfold sk2
  rw [if_pos (show t<m∧t<m from⟨htm,htm⟩),F.own t htm]
  rfl
 have hy1:sk2 T m y t=1:=by
  unfold sk2
  have:=F.two y hy t htm hyt
  rw [c1]at this
  have h6:at2 T t y=false:=by cases z:at2 T t y <;> rw [z]at this <;> first | rfl | cases this
  rw [if_pos (show y<m∧t<m from⟨hy,htm⟩),c1,h6]
  rfl
 have h7:=z6M (n:=m) (y:=x) (a:=fun j=>sk2 T m y j + -1*sk2 T m t j) fun j hj=>bc (E.nn j) (by have:=hs j hj;omega)
 rw [z9E (u:=sk2 T m y) (v:=fun j=>-1*sk2 T m t j),z4x (u:=sk2 T m t),h1]at h7
 have h8:=h7.2 t htm
 rw [ht1,hy1]at h8
 omega
theorem y6w(F:Full m T)(h0:0<m)(hm:m≤8):∃S∈(pkL (y5D T m)).filter opB,evB T m (wtS T m S)=true:=by
 obtain⟨x,a1,a2,a3,a4⟩:=y6q (s:=sk2 T m) z4Z h0
 have E:Ev (sk2 T m) m x:=⟨a1,a2,a3,a4⟩
 have P:=x2J F hm
 have od:=y3v P E
 obtain⟨ε,he,hs,ho⟩:=ev_ker P E
 have O:Od m (z3F m x):=⟨z7H,z5K,od⟩
 refine⟨z3F m x,aj.mpr ⟨?_,decide_eq_true (by omega)⟩,?_⟩
 ·have e:z3F m x=(y5D T m).filter fun i=>decide (0<x i):=by
   unfold z3F y5D
   rw [List.filter_filter]
   refine bR fun i hi=>?_
   by_cases h:0<x i
   ·rw [decide_eq_true h,unc_of F E (aj.mpr ⟨hi,decide_eq_true h⟩)]
    rfl
   ·rw [decide_eq_false h]
    rfl
  rw [e]
  have:=x3q (p:=fun i=>decide (0<x i)) (y5D T m).reverse
  rwa [cg]at this
 ·obtain⟨S,hS⟩:∃S,S=z3F m x:=⟨_,rfl⟩
  rw [←hS]at hs ho O ⊢
  have gp:=O.gc F hm
  have hf:=hs _ O.first
  have hd:dvS T m S=ε*((gcL (S.map (vt (sk2 T m) S)):Nat):Int):=by
   unfold dvS
   rcases he with rfl | rfl
   ·rw [if_neg (by omega)];omega
   ·rw [if_pos (by omega)];omega
  obtain⟨g,hg⟩:∃g,g=gcL (S.map (vt (sk2 T m) S)):=⟨_,rfl⟩
  rw [←hg]at gp hd
  have ee:ε*ε=1:=by rcases he with rfl | rfl <;> rfl
  have hw:∀t∈S,0<(wtS T m S).getD t 0:=fun t ht=>by
   have h1:=hs t ht
   rw [(O.d F hm).2 t ht,hd]at h1
   have h2:ε*(ε*(g:Int)*(wtS T m S).getD t 0)=(wtS T m S).getD t 0*(g:Int):=by grind
   rw [h2]at h1
   exact e8 h1 (by omega)
  refine(z5P h0 y4h).mpr ⟨fun t ht=>?_,⟨_,O.lt _ O.first,hw _ O.first⟩,fun t ht hp=>?_,fun t ht hp=>?_⟩
  ·by_cases h:t∈S
   ·have:=hw t h;omega
   ·rw [y3c ht h];omega
  ·have hin:t∈S:=by
    by_cases h:t∈S
    ·exact h
    ·rw [y3c ht h]at hp;omega
   have h1:=x3w F hm O ht
   rw [←y8e O.nd,y6I z4Z hin]at h1
   exact(dm.mp h1).resolve_left (O.d F hm).1
  ·have hin:t∉S:=fun h=>hp (hw t h)
   have h1:=ho t ht hin
   rw [←x3w F hm O ht,hd]at h1
   have h2:ε*(ε*(g:Int)*scr T (wtS T m S) m t)=(g:Int)*scr T (wtS T m S) m t:=by grind
   rw [h2]at h1
   by_cases h:scr T (wtS T m S) m t<0
   ·exact h
   ·have:=bc (show 0≤(g:Int) by omega) (show 0≤scr T (wtS T m S) m t by omega)
    omega
theorem pick_od{S:List Nat}(h:S∈(pkL (y5D T m)).filter opB):Od m S∧∀t∈S,uncB T m t=true:=by
 obtain⟨h1,h2⟩:=aj.mp h
 have h3:=y4g (y5D T m).reverse S (by rw [cg];exact h1)
 rw [cg]at h3
 have h2:((S.length:Int)) % 2=1:=of_decide_eq_true h2
 refine⟨⟨(List.nodup_range.filter _).sublist h3.1,fun t ht=>ae.mp (aj.mp (h3.1.subset ht)).1,by omega⟩,fun t ht=>(aj.mp (h3.1.subset ht)).2⟩
theorem y1L(F:Full m T)(h0:0<m)(hm:m≤8):hol (z4f [z0A T]) fun d=>∃S,Od m S∧(∀t∈S,uncB T m t=true)∧evB T m (wtS T m S)=true∧d=z1B (wtS T m S):=by
 refine z6C rfl ?_
 have ul:(y5D T m).length≤8:=ba (bE ..) (by simpa using hm)
 have sqp:∀P:List (List Nat),y4W (.lst (P.map thD))=some (P.map thD):=fun _=>rfl
 simp! only [z5v,y0A F.sq (show m≤1000 by omega),x1I ul,sqp]
 refine z2I (enc:=thD) (xs:=(pkL (y5D T m)).filter opB) (fun pre s=>(∃o1 o2,s=[some (.sh (z0A T)),o1,o2])∧∀S∈pre,evB T m (wtS T m S)=false) ⟨⟨_,_,rfl⟩,fun _ h=>nomatch h⟩ ?_ ?_
 ·rintro pre S post e s ⟨⟨o1,o2,rfl⟩,hn⟩
  have hS:S∈(pkL (y5D T m)).filter opB:=by rw [e];simp
  obtain⟨O,hu⟩:=pick_od hS
  simp! only [wton_eq F hm O,y9y F.sq h0 (show m≤1000 by omega) (y4h (T:=T) (S:=S))]
  cases hv:evB T m (wtS T m S)with
  |true=>
   simp! only [z0b]
   exact⟨_,rfl,S,O,hu,hv,rfl⟩
  |false=>
   simp! only [z0b]
   refine⟨⟨_,_,rfl⟩,fun S' h=>?_⟩
   rcases ay.mp h with h | h
   ·exact hn S' h
   ·rw [ax.mp h]
    exact hv
 ·rintro s ⟨_,hn⟩
  obtain⟨S,h1,h2⟩:=y6w F h0 hm
  rw [hn S h1]at h2
  cases h2
end
section
variable{T:List (List Bool)}{m:Nat}{S:List Nat}
theorem Od.wt(F:Full m T)(h0:0<m)(hm:m≤8)(O:Od m S)(he:evB T m (wtS T m S)=true){t:Nat}(ht:t<m):(t∈S->0<(wtS T m S).getD t 0∧(wtS T m S).getD t 0 % 2=1)∧0≤(wtS T m S).getD t 0∧(wtS T m S).getD t 0≤15:=by
 obtain⟨e1,_⟩:=(z5P h0 y4h).mp he
 have nn:=e1 t ht
 by_cases h:t∈S
 ·have hv:=O.v F hm h
  obtain⟨d1,d2⟩:=O.d F hm
  have d2:=d2 t h
  obtain⟨w,hw⟩:∃w,w=(wtS T m S).getD t 0:=⟨_,rfl⟩
  obtain⟨d,hd⟩:∃d,d=dvS T m S:=⟨_,rfl⟩
  rw [←hw]at nn d2 ⊢
  rw [←hd]at d1 d2
  rw [d2]at hv
  have ho:w % 2=1:=by
   have h1:=hv.1
   rw [Int.mul_emod]at h1
   rcases Int.emod_two_eq w with z | z
   ·rw [z,cC]at h1;cases h1
   ·exact z
  have hb:w≤15:=by
   have h2:=hv.2
   rw [Int.natAbs_mul]at h2
   have h3:1*w.natAbs≤d.natAbs*w.natAbs:=Nat.mul_le_mul_right _ (by omega)
   omega
  exact⟨fun _=>⟨by omega,ho⟩,nn,hb⟩
 ·rw [y3c ht h]
  exact⟨fun z=>absurd z h,by omega,by omega⟩
end
theorem z6n{T:List (List Bool)}{ws:List Int}{m i:Nat}(hi:i<m):scr T ws m i=z0E m (fun j=>ws.getD j 0) (sk2 T m i):=by
 rw [z6N hi (ao _),y1n]
 unfold z0V
 congr 1
 exact bB fun j _=>cD _ _
theorem x1w{s:Nat->Nat->Int}(sk:∀a b,s a b = -s b a){m:Nat}{x w:Vc}:z0E m x (fun i=>z0E m w (s i)) = -z0E m w (fun i=>z0E m x (s i)):=by
 rw [z6x (x:=x) (z:=w) (a:=s),←z5B]
 refine z2o (fun _ _=>rfl) fun j _=>?_
 rw [←z5B]
 exact z2o (fun _ _=>rfl) fun i _=>sk i j
section
variable{T:List (List Bool)}{m:Nat}{xs ws:List Int}
theorem x1B(h0:0<m)(hx:xs.length=m)(he:evB T m xs=true):Ev (sk2 T m) m (fun t=>xs.getD t 0)∧∀i,i<m->¬ 0<xs.getD i 0->z0E m (fun t=>xs.getD t 0) (sk2 T m i)<0:=by
 obtain⟨e1,e2,e3,e4⟩:=(z5P h0 hx).mp he
 refine⟨⟨fun i=>?_,e2,fun i hi=>?_,fun i hi hp=>?_⟩,fun i hi hp=>?_⟩
 ·by_cases h:i<m
  ·exact e1 i h
  ·have:xs.getD i 0=0:=by simp [aJ,show ¬ i<xs.length by omega]
   rw [this]
   exact cO 0
 ·rw [←z6n hi]
  by_cases h:0<xs.getD i 0
  ·rw [e3 i hi h];exact cO 0
  ·have:=e4 i hi h;omega
 ·rw [←z6n hi];exact e3 i hi hp
 ·rw [←z6n hi];exact e4 i hi hp
theorem ev_in(h0:0<m)(hx:xs.length=m)(hw:ws.length=m)(he:evB T m xs=true)(hf:evB T m ws=true):∀i,i<m->0<ws.getD i 0->0<xs.getD i 0:=by
 obtain⟨X,x4⟩:=x1B h0 hx he
 obtain⟨W,w4⟩:=x1B h0 hw hf
 have t:=x1w (s:=sk2 T m) z4Z (m:=m) (x:=fun t=>xs.getD t 0) (w:=fun t=>ws.getD t 0)
 have n1:=z6M (n:=m) (y:=fun t=>xs.getD t 0) (a:=fun i=>-z0E m (fun t=>ws.getD t 0) (sk2 T m i)) fun i hi=>bc (X.nn i) (by have:=W.le i hi;omega)
 have n2:=z6M (n:=m) (y:=fun t=>ws.getD t 0) (a:=fun i=>-z0E m (fun t=>xs.getD t 0) (sk2 T m i)) fun i hi=>bc (W.nn i) (by have:=X.le i hi;omega)
 rw [z5B]at n1 n2
 intro i hi hp
 by_cases h:0<xs.getD i 0
 ·exact h
 ·have h1:=x4 i hi h
  have h2:=n2.2 i hi
  have h3:=bJ hp (show 0 < -z0E m (fun t=>xs.getD t 0) (sk2 T m i) by omega)
  have n10:=n1.1
  have n20:=n2.1
  have h2:ws.getD i 0 * -z0E m (fun t=>xs.getD t 0) (sk2 T m i)≤-z0E m (fun t=>ws.getD t 0) (fun i=>z0E m (fun t=>xs.getD t 0) (sk2 T m i)):=h2
  omega
theorem ev_mult(F:Full m T)(h0:0<m)(hm:m≤8)(hx:xs.length=m)(hw:ws.length=m)(he:evB T m xs=true)(hf:evB T m ws=true){a b:Nat}(ha:a<m)(hb:b<m):xs.getD a 0*ws.getD b 0=xs.getD b 0*ws.getD a 0:=by
 obtain⟨X,_⟩:=x1B h0 hx he
 obtain⟨W,_⟩:=x1B h0 hw hf
 have i1:=ev_in h0 hx hw he hf
 have i2:=ev_in h0 hw hx hf he
 have P:=x2J F hm
 have es:z3F m (fun t=>xs.getD t 0)=z3F m (fun t=>ws.getD t 0):=bR fun i hi=>by
  have hi:=ae.mp hi
  by_cases h:0<xs.getD i 0
  ·rw [decide_eq_true h,decide_eq_true (i2 i hi h)]
  ·rw [decide_eq_false h,decide_eq_false fun z=>h (i1 i hi z)]
 have zx:∀i,i<m->i∉z3F m (fun t=>xs.getD t 0)->xs.getD i 0=0:=fun i hi hn=>by
  have:=X.nn i
  by_cases h:0<xs.getD i 0
  ·exact absurd (aj.mpr ⟨ae.mpr hi,decide_eq_true h⟩) hn
  ·omega
 have zw:∀i,i<m->i∉z3F m (fun t=>xs.getD t 0)->ws.getD i 0=0:=fun i hi hn=>by
  rw [es]at hn
  have:=W.nn i
  by_cases h:0<ws.getD i 0
  ·exact absurd (aj.mpr ⟨ae.mpr hi,decide_eq_true h⟩) hn
  ·omega
 by_cases sa:a∈z3F m (fun t=>xs.getD t 0)
 ·by_cases sb:b∈z3F m (fun t=>xs.getD t 0)
  ·have p1:=y1K P X sa sb
   have p2:=y1K P W (es ▸ sa) (es ▸ sb)
   rw [←es]at p2
   obtain⟨S,hS⟩:∃S,S=z3F m (fun t=>xs.getD t 0):=⟨_,rfl⟩
   have od:=y3v P X
   rw [←hS]at p1 p2 sa sb od
   have nd:S.Nodup:=by rw [hS];exact z7H
   have lt:∀t∈S,t<m:=by rw [hS];exact z5K
   have O:Od m S:=⟨nd,lt,od⟩
   have hv:=(O.v F hm sb).1
   obtain⟨va,hva⟩:∃va,va=vt (sk2 T m) S a:=⟨_,rfl⟩
   obtain⟨vb,hvb⟩:∃vb,vb=vt (sk2 T m) S b:=⟨_,rfl⟩
   rw [←hva,←hvb]at p1 p2
   rw [←hvb]at hv
   have p1:vb*xs.getD a 0=xs.getD b 0*va:=p1
   have p2:vb*ws.getD a 0=ws.getD b 0*va:=p2
   have hz:vb*(xs.getD a 0*ws.getD b 0 - xs.getD b 0*ws.getD a 0)=0:=by grind
   rcases dm.mp hz with z | z
   ·rw [z]at hv;cases hv
   ·omega
  ·rw [zx b hb sb,zw b hb sb]
   omega
 ·rw [zx a ha sa,zw a ha sa]
  omega
end
theorem y7y{A B:List Nat}{g:Nat->Int}:z0V (A++B) g=z0V A g+z0V B g:=by
 unfold z0V
 rw [aI,cc]
theorem y5A{A:List Nat}{f:Nat->List Nat}{g:Nat->Int}:z0V (A.flatMap f) g=z0V A fun k=>z0V (f k) g:=by
 induction A with
 |nil=>rfl
 |cons a r ih=>rw [List.flatMap_cons,y7y,z0P,ih]
theorem x1C{L:List (List Nat)}:(ad L.length).flatMap (pk L)=L.flatten:=by
 rw [List.flatMap_def]
 congr 1
 apply bb
 ·simp
 ·intro i h1 h2
  unfold pk
  simp [aJ,h2]
theorem p_idx{P:List Nat}{g:Nat->Int}:z0V P g=z0V (ad P.length) fun i=>g (P.getD i 0):=x2x
section
variable{T:List (List Bool)}{m:Nat}{L:List (List Nat)}{U:List Int}{V:Nat->List Int}
def prO(s:Nat->Int)(n k:Nat):Int:=((ad n).filter fun j=>decide (j≠k)).foldr (fun j a=>s j*a) 1
def prA(s:Nat->Int)(n:Nat):Int:=(ad n).foldr (fun j a=>s j*a) 1
theorem y4y{s:Nat->Int}:∀{l:List Nat},(∀j∈l,0<s j)->0<l.foldr (fun j a=>s j*a) 1
 |[],_=>by show(0:Int)<1;decide
 |j::r,h=>bJ (h j ah) (y4y fun i hi=>h i (ag _ hi))
theorem y3U{s:Nat->Int}{k:Nat}:∀{l:List Nat},l.Nodup->k∈l->l.foldr (fun j a=>s j*a) 1=s k*(l.filter fun j=>decide (j≠k)).foldr (fun j a=>s j*a) 1
 |j::r,nd,h=>by
  have nd':=av.mp nd
  by_cases e:j=k
  ·subst e
   rw [d6,bL,if_neg (by simp)]
   have:r.filter (fun i=>decide (i≠j))=r:=dB.mpr fun i hi=>decide_eq_true fun z=>nd'.1 (z ▸ hi)
   rw [this]
  ·have hk:k∈r:=by
    rcases ai.mp h with z | z
    ·exact absurd z.symm e
    ·exact z
   rw [d6,bL,if_pos (decide_eq_true e),d6,y3U nd'.2 hk]
   ac_rfl
end
section
variable{T:List (List Bool)}{m:Nat}{L:List (List Nat)}
def kO(L:List (List Nat))(t:Nat):Nat:=L.findIdx fun p=>p.contains t
theorem kO_is(G:Gd T m L){k t:Nat}(hk:k<L.length)(h:t∈pk L k):kO L t=k:=by
 have ex:∃p∈L,p.contains t=true:=⟨_,z9e hk,aE.mpr h⟩
 have hlt:L.findIdx (fun p=>p.contains t)<L.length:=List.findIdx_lt_length_of_exists ex
 have hin:t∈pk L (L.findIdx fun p=>p.contains t):=by
  have:=List.findIdx_getElem (xs:=L) (p:=fun p=>p.contains t) (w:=hlt)
  unfold pk
  rw [au,ac hlt]
  exact aE.mp this
 exact G.only hlt hk hin h
theorem y1l(G:Gd T m L){f:Nat->Int}:z0V (ad m) f=z0V (ad L.length) fun k=>z0V (ad (pk L k).length) fun i=>f ((pk L k).getD i 0):=by
 rw [←y2a G.pm,←x1C,y5A]
 exact z0X fun k _=>p_idx
variable{U:List Int}{V:Nat->List Int}
def sgm(L:List (List Nat))(V:Nat->List Int)(k:Nat):Int:=z0V (ad (pk L k).length) fun i=>(V k).getD i 0
def cmp(L:List (List Nat))(U:List Int)(V:Nat->List Int)(t:Nat):Int:=U.getD (kO L t) 0*(V (kO L t)).getD (idx (pk L (kO L t)) t) 0*prO (sgm L V) L.length (kO L t)
theorem y0a(G:Gd T m L){k i:Nat}(hk:k<L.length)(hi:i<(pk L k).length):cmp L U V ((pk L k).getD i 0)=U.getD k 0*(V k).getD i 0*prO (sgm L V) L.length k:=by
 have hin:(pk L k).getD i 0∈pk L k:=by
  rw [au,ac hi]
  exact aR hi
 unfold cmp
 rw [kO_is G hk hin,y6y (G.ris _ (z9e hk)).nd hi]
structure Sh(T:List (List Bool))(m:Nat)(L:List (List Nat))(U:List Int)(V:Nat->List Int):Prop where
 ul:U.length=L.length
 ue:evB (ouT T L) L.length U=true
 vl:∀k,k<L.length->(V k).length=(pk L k).length
 ve:∀k,k<L.length->evB (z0x (pk L k) (at2 T)) (pk L k).length (V k)=true
theorem Gd.pp(G:Gd T m L){k:Nat}(hk:k<L.length):0<(pk L k).length:=bS.mpr (G.ne _ (z9e hk))
theorem Sh.sg(G:Gd T m L)(S:Sh T m L U V){k:Nat}(hk:k<L.length):0<sgm L V k:=by
 obtain⟨e1,⟨t,ht,htp⟩,_⟩:=(z5P (G.pp hk) (S.vl k hk)).mp (S.ve k hk)
 have nn:=z6M (n:=(pk L k).length) (y:=fun i=>(V k).getD i 0) (a:=fun _=>1) fun i hi=>by have:=e1 i hi;omega
 have e:z0E (pk L k).length (fun i=>(V k).getD i 0) (fun _=>1)=sgm L V k:=by
  rw [y1n]
  exact z0X fun i _=>by omega
 rw [e]at nn
 have:=nn.2 t ht
 omega
theorem Sh.c(G:Gd T m L)(S:Sh T m L U V)(k:Nat):0<prO (sgm L V) L.length k:=y4y fun j hj=>S.sg G (ae.mp (aj.mp hj).1)
theorem Sh.pi{k:Nat}(hk:k<L.length):prA (sgm L V) L.length=sgm L V k*prO (sgm L V) L.length k:=y3U br (ae.mpr hk)
theorem cmp_scr(F:Full m T)(G:Gd T m L){a b:Nat}(ha:a<L.length)(hb:b<(pk L a).length):z0E m (cmp L U V) (sk2 T m ((pk L a).getD b 0))=prA (sgm L V) L.length*scr (ouT T L) U L.length a+U.getD a 0*prO (sgm L V) L.length a*scr (z0x (pk L a) (at2 T)) (V a) (pk L a).length b:=by
 have gi:∀{k i:Nat},i<(pk L k).length->(pk L k).getD i 0∈pk L k:=fun {k i} hi=>by
  rw [au,ac hi]
  exact aR hi
 have htm:=G.plt ha (gi hb)
 rw [y1n,y1l G,z6N ha (ao _),z6N hb (ao _)]
 have e:∀k∈ad L.length,z0V (ad (pk L k).length) (fun i=>cmp L U V ((pk L k).getD i 0)*sk2 T m ((pk L a).getD b 0) ((pk L k).getD i 0))=prA (sgm L V) L.length*(sk2 (ouT T L) L.length a k*U.getD k 0)+if k=a then U.getD a 0*prO (sgm L V) L.length a*z0V (ad (pk L a).length) (fun i=>sk2 (z0x (pk L a) (at2 T)) (pk L a).length b i*(V a).getD i 0)else 0:=fun k hk=>by
  have hk:=ae.mp hk
  by_cases h:k=a
  ·subst h
   rw [if_pos rfl,←ls_mul]
   have z:sk2 (ouT T L) L.length k k=0:=by
    have:=z4Z (T:=ouT T L) (m:=L.length) k k
    omega
   rw [z,dh,cC,bW]
   refine z0X fun i hi=>?_
   have hi:=ae.mp hi
   rw [y0a G hk hi]
   have es:sk2 T m ((pk L k).getD b 0) ((pk L k).getD i 0)=sk2 (z0x (pk L k) (at2 T)) (pk L k).length b i:=by
    unfold sk2
    rw [if_pos (show(pk L k).getD b 0<m∧(pk L k).getD i 0<m from⟨htm,G.plt hk (gi hi)⟩),if_pos (show b<(pk L k).length∧i<(pk L k).length from⟨hb,hi⟩),z6A hb hi,z6A hi hb]
   rw [es]
   ac_rfl
  ·rw [if_neg h,fw]
   have e2:∀i∈ad (pk L k).length,cmp L U V ((pk L k).getD i 0)*sk2 T m ((pk L a).getD b 0) ((pk L k).getD i 0)=U.getD k 0*prO (sgm L V) L.length k*sk2 (ouT T L) L.length a k*(V k).getD i 0:=fun i hi=>by
    have hi:=ae.mp hi
    rw [y0a G hk hi]
    have es:sk2 T m ((pk L a).getD b 0) ((pk L k).getD i 0)=sk2 (ouT T L) L.length a k:=by
     unfold sk2
     rw [if_pos (show(pk L a).getD b 0<m∧(pk L k).getD i 0<m from⟨htm,G.plt hk (gi hi)⟩),if_pos (show a<L.length∧k<L.length from⟨ha,hk⟩),x0V F G ha hk (Ne.symm h) (gi hb) (gi hi),x0V F G hk ha h (gi hi) (gi hb)]
    rw [es]
    ac_rfl
   rw [z0X e2,ls_mul,Sh.pi (L:=L) (V:=V) hk]
   unfold sgm
   ac_rfl
 rw [z0X e,y8a,ls_mul]
 congr 1
 have one:∀(X:Int) (l:List Nat),l.Nodup->a∈l->z0V l (fun k=>if k=a then X else 0)=X:=fun X l=>by
  induction l with
  |nil=>intro _ h;cases h
  |cons c r ih=>
   intro nd h
   have nd':=av.mp nd
   rw [z0P]
   by_cases hc:c=a
   ·subst hc
    rw [if_pos rfl,z8Q (L:=r) fun k hk=>if_neg fun(z:k=c)=>nd'.1 (z ▸ hk)]
    omega
   ·rw [if_neg hc,ih nd'.2 ((ai.mp h).resolve_left fun z=>hc z.symm)]
    omega
 rw [one _ _ br (ae.mpr ha)]
 rfl
end
section
variable{T:List (List Bool)}{m:Nat}{L:List (List Nat)}{U:List Int}{V:Nat->List Int}
def cmL(T:List (List Bool))(m:Nat)(L:List (List Nat))(U:List Int)(V:Nat->List Int):List Int:=(ad m).map (cmp L U V)
theorem y4n{t:Nat}(h:t<m):(cmL T m L U V).getD t 0=cmp L U V t:=by
 unfold cmL
 simp [aJ,h]
theorem x3z:(cmL T m L U V).length=m:=by simp [cmL]
theorem y4U{k i:Nat}(hi:i<(pk L k).length):(pk L k).getD i 0∈pk L k:=by
 rw [au,ac hi]
 exact aR hi
theorem Gd.at(G:Gd T m L){t:Nat}(ht:t<m):∃k i,k<L.length∧i<(pk L k).length∧t=(pk L k).getD i 0:=by
 obtain⟨k,hk,h⟩:=G.has ht
 obtain⟨i,hi,rfl⟩:=bj.mp h
 exact⟨k,i,hk,hi,by simp [aJ,hi]⟩
theorem x2S(F:Full m T)(G:Gd T m L){a b:Nat}(ha:a<L.length)(hb:b<(pk L a).length):scr T (cmL T m L U V) m ((pk L a).getD b 0)=prA (sgm L V) L.length*scr (ouT T L) U L.length a+U.getD a 0*prO (sgm L V) L.length a*scr (z0x (pk L a) (at2 T)) (V a) (pk L a).length b:=by
 rw [z6n (G.plt ha (y4U hb)),←cmp_scr F G ha hb]
 exact z2o (fun t ht=>y4n ht) fun _ _=>rfl
theorem cm_even(F:Full m T)(h0:0<m)(G:Gd T m L)(S:Sh T m L U V):evB T m (cmL T m L U V)=true:=by
 obtain⟨k0,hk0,_⟩:=G.has h0
 have n0:0<L.length:=by omega
 obtain⟨u1,⟨a0,ha0,hu0⟩,u3,u4⟩:=(z5P n0 S.ul).mp S.ue
 have vv:=fun {k:Nat} (hk:k<L.length)=>(z5P (G.pp hk) (S.vl k hk)).mp (S.ve k hk)
 have hA:0<prA (sgm L V) L.length:=by
  rw [Sh.pi (L:=L) (V:=V) hk0]
  exact bJ (S.sg G hk0) (S.c G k0)
 have val:∀{k i:Nat},k<L.length->i<(pk L k).length->(cmL T m L U V).getD ((pk L k).getD i 0) 0=U.getD k 0*(V k).getD i 0*prO (sgm L V) L.length k:=fun {k i} hk hi=>by rw [y4n (G.plt hk (y4U hi)),y0a G hk hi]
 refine(z5P h0 x3z).mpr ⟨fun t ht=>?_,?_,fun t ht hp=>?_,fun t ht hp=>?_⟩
 ·obtain⟨k,i,hk,hi,rfl⟩:=G.at ht
  rw [val hk hi]
  exact bc (bc (u1 k hk) ((vv hk).1 i hi)) (Int.le_of_lt (S.c G k))
 ·obtain⟨_,⟨i,hi,hv⟩,_⟩:=vv ha0
  refine⟨_,G.plt ha0 (y4U hi),?_⟩
  rw [val ha0 hi]
  exact bJ (bJ hu0 hv) (S.c G a0)
 ·obtain⟨k,i,hk,hi,rfl⟩:=G.at ht
  rw [val hk hi]at hp
  have hU:=u1 k hk
  have hV:=(vv hk).1 i hi
  have pU:0<U.getD k 0:=by
   by_cases z:U.getD k 0=0
   ·rw [z]at hp;simp at hp
   ·omega
  have pV:0<(V k).getD i 0:=by
   by_cases z:(V k).getD i 0=0
   ·rw [z]at hp;simp at hp
   ·omega
  rw [x2S F G hk hi,u3 k hk pU,(vv hk).2.2.1 i hi pV,cC,cC]
  rfl
 ·obtain⟨k,i,hk,hi,rfl⟩:=G.at ht
  rw [val hk hi]at hp
  have hU:=u1 k hk
  have hV:=(vv hk).1 i hi
  rw [x2S F G hk hi]
  by_cases pU:0<U.getD k 0
  ·have nV:¬ 0<(V k).getD i 0:=fun pV=>hp (bJ (bJ pU pV) (S.c G k))
   have s1:=(vv hk).2.2.2 i hi nV
   rw [u3 k hk pU,cC,bW]
   exact eN (bJ pU (S.c G k)) s1
  ·have s1:=u4 k hk pU
   have z:U.getD k 0=0:=by omega
   rw [z,dh,dh,fw]
   exact eN hA s1
theorem y2v{ws:List Int}:z0V (ad ws.length) (fun i=>ws.getD i 0)=ws.sum:=by
 unfold z0V
 congr 1
 apply bb
 ·simp
 ·intro i h1 h2
  simp [aJ,ac h2]
theorem shares(F:Full m T)(h0:0<m)(hm:m≤8)(G:Gd T m L)(S:Sh T m L U V){W:List Int}(hl:W.length=m)(he:evB T m W=true){a b:Nat}(ha:a<L.length)(hb:b<(pk L a).length):W.getD ((pk L a).getD b 0) 0*U.sum*(V a).sum=U.getD a 0*(V a).getD b 0*W.sum:=by
 have hc:=cm_even F h0 G S
 have ht:=G.plt ha (y4U hb)
 have key:W.getD ((pk L a).getD b 0) 0*z0V (ad m) (fun u=>(cmL T m L U V).getD u 0)=(cmL T m L U V).getD ((pk L a).getD b 0) 0*z0V (ad m) (fun u=>W.getD u 0):=by
  rw [←ls_mul,←ls_mul]
  refine z0X fun u hu=>?_
  have:=ev_mult F h0 hm hl x3z he hc ht (ae.mp hu)
  rw [this,cD]
 have sW:z0V (ad m) (fun u=>W.getD u 0)=W.sum:=by rw [←hl];exact y2v
 have sV:∀k,k<L.length->sgm L V k=(V k).sum:=fun k hk=>by unfold sgm;rw [←S.vl k hk];exact y2v
 have sX:z0V (ad m) (fun u=>(cmL T m L U V).getD u 0)=prA (sgm L V) L.length*U.sum:=by
  rw [y1l G,←y2v (ws:=U),S.ul,←ls_mul]
  refine z0X fun k hk=>?_
  have hk:=ae.mp hk
  have e:∀i∈ad (pk L k).length,(cmL T m L U V).getD ((pk L k).getD i 0) 0=U.getD k 0*prO (sgm L V) L.length k*(V k).getD i 0:=fun i hi=>by
   have hi:=ae.mp hi
   rw [y4n (G.plt hk (y4U hi)),y0a G hk hi]
   ac_rfl
  rw [z0X e,ls_mul,Sh.pi (L:=L) (V:=V) hk]
  unfold sgm
  ac_rfl
 rw [sX,sW,y4n ht,y0a G ha hb,Sh.pi (L:=L) (V:=V) ha,sV a ha]at key
 have hp:=S.c G a
 obtain⟨c,hcc⟩:∃c,c=prO (sgm L V) L.length a:=⟨_,rfl⟩
 rw [←hcc]at key hp
 have k2:(W.getD ((pk L a).getD b 0) 0*U.sum*(V a).sum)*c=(U.getD a 0*(V a).getD b 0*W.sum)*c:=by grind
 exact Int.eq_of_mul_eq_mul_right (by omega) k2
end
section
variable{T:List (List Bool)}{m:Nat}
theorem nd_inj{P:List Nat}(nd:P.Nodup){i j:Nat}(hi:i<P.length)(hj:j<P.length)(h:P[i]=P[j]):i=j:=by
 rcases dS i j with z | z | z
 ·exact absurd h (cj.mp nd i j hi hj z)
 ·exact z
 ·exact absurd h.symm (cj.mp nd j i hj hi z)
theorem gr_at{P:List Nat}{i j:Nat}(hi:i<P.length)(hj:j<P.length):at2 (z0x P (at2 T)) i j=at2 T (P.getD i 0) (P.getD j 0):=by
 unfold at2 z0x
 simp [aJ,ac hi,ac hj]
theorem gr_full(F:Full m T){P:List Nat}(nd:P.Nodup)(lt:∀x∈P,x<m):Full P.length (z0x P (at2 T)):=by
 have gi:∀i,i<P.length->P.getD i 0<m:=fun i hi=>by
  rw [au,ac hi]
  exact lt _ (aR hi)
 refine⟨z5w,fun i hi=>?_,fun i hi j hj hij=>?_⟩
 ·rw [gr_at hi hi];exact F.own _ (gi i hi)
 ·rw [gr_at hi hj,gr_at hj hi]
  refine F.two _ (gi i hi) _ (gi j hj) fun z=>hij ?_
  rw [au,au,ac hi,ac hj]at z
  exact nd_inj nd hi hj z
end
theorem x1s{m:Nat}{T:List (List Bool)}(sq:Sq m T){P:List Nat}(hl:P.length≤1000)(lt:∀x∈P,x<m):z2Y [z0A T,thD P]=some (z0A (z0x P (at2 T))):=by
 refine z0r rfl ?_
 have c2:z2c (some (P.map nD)) (z2e z3x (z0w (z0U (z5l (z0d 1)) z3x (d2 ixD (d2 ixD (z0d 0) (z0d 2)) (z0d 3)))) [some (z0A T),some (thD P)])=some ((z0x P (at2 T)).map z2v):=by
  rw [z1W (fun i=>z2v (P.map fun j=>at2 T i j)) hl fun i hi=>?_]
  ·unfold z0x
   rw [aL]
   rfl
  ·have c3:z2c (some (P.map nD)) (z2e z3x (d2 ixD (d2 ixD (z0d 0) (z0d 2)) (z0d 3)) [some (z0A T),some (thD P),some (nD i)])=some ((P.map fun j=>at2 T i j).map bD):=by
    rw [z1W (fun j=>bD (at2 T i j)) hl fun j hj=>?_]
    ·rw [aL]
     rfl
    ·simp! only [nD,ix2 sq (lt i hi) (lt j hj),bD]
   simp! only [z3u,c3,z1T (z1c _)]
   rfl
 simp! only [z4Q,z3u,c2,z0b]
 rfl
theorem ix_lls{L:List (List Nat)}{k:Nat}(h:k<L.length):ixD (llD L) (.int (k:Int))=some (thD (pk L k)):=by
 have e:pk L k=L[k]:=by
  unfold pk
  simp [aJ,h]
 rw [e]
 exact z8v (by rw [aN,ac h];rfl)
theorem x2y:∀{l:List Int},(∀x∈l,0≤x∧x≤15)->0≤l.sum∧l.sum≤15*(l.length:Int)∧∀x∈l,x≤l.sum
 |[],_=>⟨by simp,by simp,fun x hx=>nomatch hx⟩
 |a::r,h=>by
  obtain⟨h1,h2,h3⟩:=x2y fun x hx=>h x (ag _ hx)
  have ha:=h a ah
  rw [ce,aY]
  refine⟨by omega,by omega,fun x hx=>?_⟩
  rcases ai.mp hx with rfl | hx
  ·omega
  ·have:=h3 x hx
   omega
structure Wt(T:List (List Bool))(m:Nat)(W:List Int):Prop where
 len:W.length=m
 ev:evB T m W=true
 el:∀x∈W,0≤x∧x≤15
 pos:0<W.sum
 le:W.sum≤15*(m:Int)
theorem z4N{m:Nat}{T:List (List Bool)}(F:Full m T)(h0:0<m)(hm:m≤8):∃W,z0J [z0A T]=some (z1B W)∧Wt T m W:=by
 obtain⟨_,ew,S,O,hu,he,rfl⟩:=y1L F h0 hm
 have hwt:=fun {t:Nat}=>O.wt F h0 hm he (t:=t)
 have hl:=y4h (T:=T) (m:=m) (S:=S)
 obtain⟨W,hW⟩:∃W,W=wtS T m S:=⟨_,rfl⟩
 rw [←hW]at ew he hwt hl
 have el:∀x∈W,0≤x∧x≤15:=fun x hx=>by
  obtain⟨i,hi,rfl⟩:=bj.mp hx
  have:=(hwt (t:=i) (by omega)).2
  rw [au,ac hi]at this
  exact this
 obtain⟨s1,s2,s3⟩:=x2y el
 rw [hl]at s2
 have sp:0<W.sum:=by
  obtain⟨_,⟨t,ht,htp⟩,_⟩:=(z5P h0 hl).mp he
  have ht':t<W.length:=by omega
  rw [au,ac ht']at htp
  have:=s3 _ (aR ht')
  have htp:0<W[t]:=htp
  omega
 refine⟨W,z0r rfl ?_,hl,he,el,sp,s2⟩
 have il:isF "list" (z1B W)=true:=rfl
 have ln:z1z [z1B W]=some (.int (m:Int)):=by
  show z1z [.lst (W.map .int)]=_
  rw [z6Q,hl]
 have sqw:y4W (z1B W)=some (W.map .int):=rfl
 have sm:y5q [z1B W]=some (.int W.sum):=y0O
 have nz:decide (W.sum=0)=false:=decide_eq_false (by omega)
 simp_all! only [z2K,ew,il,ln,z1d,F.sq.1,sqw]
 refine z0v (I:=fun s=>∃o2,s=[some (.sh (z0A T)),some (.sh (z1B W)),o2]) (z2I (enc:=D.int) (xs:=W) (fun _ s=>∃o2,s=[some (.sh (z0A T)),some (.sh (z1B W)),o2]) ⟨_,rfl⟩ ?_ fun s z=>⟨s,rfl,z⟩) ?_
 ·rintro pre v post e s ⟨o2,rfl⟩
  have lt0:decide (v<0)=false:=decide_eq_false (by have:=el v (by rw [e];simp);omega)
  simp_all! only [x1g,lt0,z0b]
  exact⟨_,rfl⟩
 ·rintro s ⟨o2,rfl⟩
  simp_all! only [sm,nz,z0b]
theorem x2t{W:List Int}:isN (z1B W)=false:=(rfl)
theorem y4m{m:Nat}{T:List (List Bool)}{L:List (List Nat)}(F:Full m T)(h0:0<m)(hm:m≤8)(G:Gd T m L):z1J [z0A T,llD L]=some (.bl true):=by
 refine z0r rfl ?_
 have hl:=G.len
 have FO:=ou_full F G
 have n0:0<L.length:=by
  obtain⟨k,hk,_⟩:=G.has h0
  omega
 obtain⟨W,ew,HW⟩:=z4N F h0 hm
 obtain⟨U,eu,HU⟩:=z4N FO n0 (by omega)
 have hV:∀k,∃Vk,k<L.length->z0J [z0A (z0x (pk L k) (at2 T))]=some (z1B Vk)∧Wt (z0x (pk L k) (at2 T)) (pk L k).length Vk:=fun k=>by
  by_cases hk:k<L.length
  ·have R:=G.ris _ (z9e hk)
   have:=R.len
   obtain⟨Vk,h1,h2⟩:=z4N (gr_full F R.nd R.lt) (G.pp hk) (by omega)
   exact⟨Vk,fun _=>⟨h1,h2⟩⟩
  ·exact⟨[],fun z=>absurd z hk⟩
 obtain⟨V,HV⟩:∃V:Nat->List Int,∀k,k<L.length->z0J [z0A (z0x (pk L k) (at2 T))]=some (z1B (V k))∧Wt (z0x (pk L k) (at2 T)) (pk L k).length (V k):=⟨fun k=>(hV k).choose,fun k=>(hV k).choose_spec⟩
 have S:Sh T m L U V:=⟨HU.len,HU.ev,fun k hk=>(HV k hk).2.len,fun k hk=>(HV k hk).2.ev⟩
 have cp:∀a b c d e f g:Option D,z2c (some (L.map thD)) (z2e z3x (z0w (z2S z9B [z0d 9])) [some (z0A T),some (llD L),a,b,c,d,e,f,g])=some (L.map thD):=fun a b c d e f g=>by
  refine z1W (enc:=thD) (xs:=L) thD (by omega) fun p _=>?_
  have lp:z9B [thD p]=some (p.map nD):=rfl
  simp! only [lp,z2J,z7p]
 have ll:D.lst (L.map thD)=llD L:=rfl
 have fo:=y7w F G hm
 have sU:y5q [z1B U]=some (.int U.sum):=y0O
 have sW:y5q [z1B W]=some (.int W.sum):=y0O
 have lu:z1z [z1B U]=some (.int (L.length:Int)):=by
  show z1z [.lst (U.map .int)]=_
  rw [z6Q,HU.len]
 have gel:∀{ws:List Int},(∀x∈ws,0≤x∧x≤15)->∀j,0≤ws.getD j 0∧ws.getD j 0≤15:=fun {ws} h j=>by
  by_cases hj:j<ws.length
  ·rw [au,ac hj]
   exact h _ (aR hj)
  ·have:ws.getD j 0=0:=by simp [aJ,hj]
   rw [this]
   decide
 have ne1:neD (.int (L.length:Int)) (.int (L.length:Int))=some (.bl false):=y8l y7s (by omega)
 simp_all! only [z3B,ew,y2T,cp,ll,fo,eu,x2t,lu,len_lls,ne1,z1m (show L.length≤1000000 by omega)]
 refine z0v (I:=fun s=>∃o4 o5 o6 o7 o8,s=[some (.sh (z0A T)),some (.sh (llD L)),some (.sh (z1B W)),some (.sh (z1B U)),o4,o5,o6,o7,o8]) (z3j (fun _ s=>∃o4 o5 o6 o7 o8,s=[some (.sh (z0A T)),some (.sh (llD L)),some (.sh (z1B W)),some (.sh (z1B U)),o4,o5,o6,o7,o8]) ⟨_,_,_,_,_,rfl⟩ ?_ fun s z=>⟨s,rfl,z⟩) ?_
 ·rintro k hk s ⟨o4,o5,o6,o7,o8,rfl⟩
  have R:=G.ris _ (z9e hk)
  have pl:=R.len
  have lp:=x1s F.sq (P:=pk L k) (by omega) R.lt
  obtain⟨ev,Hk⟩:=HV k hk
  have ik:=ix_lls hk
  have lv:z1z [z1B (V k)]=some (.int ((pk L k).length:Int)):=by
   show z1z [.lst ((V k).map .int)]=_
   rw [z6Q,Hk.len]
  have sV:y5q [z1B (V k)]=some (.int (V k).sum):=y0O
  simp_all! only [bW,ik,lp,ev,x2t,lv,z1m (show(pk L k).length≤1000000 by omega)]
  refine z3j (fun _ s=>∃o6 o7 o8,s=[some (.sh (z0A T)),some (.sh (llD L)),some (.sh (z1B W)),some (.sh (z1B U)),some (.sh (.int (k:Int))),some (.sh (z1B (V k))),o6,o7,o8]) ⟨_,_,_,rfl⟩ ?_ ?_
  ·rintro i hi s ⟨o6,o7,o8,rfl⟩
   have sh:=shares F h0 hm G S HW.len HW.ev hk hi
   have ixp:ixD (thD (pk L k)) (.int (i:Int))=some (.int (((pk L k).getD i 0:Nat):Int)):=by
    have e:(pk L k).getD i 0=(pk L k)[i]:=by simp [aJ,hi]
    rw [e]
    exact z8v (by rw [aN,ac hi];rfl)
   obtain⟨t,htt⟩:∃t,t=(pk L k).getD i 0:=⟨_,rfl⟩
   have htm:t<m:=by rw [htt];exact G.plt hk (y4U hi)
   rw [←htt]at sh ixp
   have b1:=gel HW.el t
   have b2:=gel HU.el k
   have b3:=gel Hk.el i
   have w1:=HW.pos
   have w2:=HW.le
   have u1:=HU.pos
   have u2:=HU.le
   have v1:=Hk.pos
   have v2:=Hk.le
   have xW:=y4P (ws:=W) (k:=t) (by rw [HW.len];exact htm)
   have xU:=y4P (ws:=U) (k:=k) (by rw [HU.len];exact hk)
   have xV:=y4P (ws:=V k) (k:=i) (by rw [Hk.len];exact hi)
   obtain⟨w,hw⟩:∃w,w=W.getD t 0:=⟨_,rfl⟩
   obtain⟨u,hu⟩:∃u,u=U.getD k 0:=⟨_,rfl⟩
   obtain⟨v,hv⟩:∃v,v=(V k).getD i 0:=⟨_,rfl⟩
   rw [←hw]at sh b1 xW
   rw [←hu]at sh b2 xU
   rw [←hv]at sh b3 xV
   have q1:0≤u*v∧u*v≤15*15:=⟨bc b2.1 b3.1,eM b2.2 b3.2 b3.1 (by decide)⟩
   have q2:0≤w*U.sum∧w*U.sum≤15*120:=⟨bc b1.1 (by omega),eM b1.2 (by omega) (by omega) (by decide)⟩
   have m1:=z4B (i:=u) (j:=v) (by omega) (by omega)
   have m2:=z4B (i:=u*v) (j:=W.sum) (by omega) (by omega)
   have m3:=z4B (i:=w) (j:=U.sum) (by omega) (by omega)
   have m4:=z4B (i:=w*U.sum) (j:=(V k).sum) (by omega) (by omega)
   have ne2:neD (.int (u*v*W.sum)) (.int (u*v*W.sum))=some (.bl false):=y8l y7s (by omega)
   simp_all! only [bW,ik,ixp,xW,xU,xV,sW,sU,sV,m1,m2,m3,m4,sh,ne2,z0b]
   exact⟨_,_,_,rfl⟩
  ·rintro s ⟨o6,o7,o8,rfl⟩
   exact⟨_,_,_,_,_,rfl⟩
 ·rintro s ⟨o4,o5,o6,o7,o8,rfl⟩
  simp! only [z0b]
theorem law_true(ns:List Int)(hns:ns.length≤63):y4S [.scr ns]=some (.bl true):=by
 refine z0r rfl ?_
 obtain⟨_,e0,O,Is,hs,rfl,M⟩:=x1j ns
 have e0:z1N [.scr ns]=some (y7e O Is hs):=e0
 have et:=y8B M
 have F:=y8J M
 have h0:=hs_pos M
 have h8:=M.le
 have ep:=y6l M
 have G1:=y5Y M
 obtain⟨T,hT⟩:∃T,T=x0d O Is hs:=⟨_,rfl⟩
 obtain⟨m,hm⟩:∃m,m=hs.length:=⟨_,rfl⟩
 rw [←hT]at et F G1
 rw [←hm]at F h0 h8 G1
 obtain⟨L1,hL1⟩:∃L1,L1=pcs O.length hs:=⟨_,rfl⟩
 rw [←hL1]at ep G1
 obtain⟨L,ea,G,hr⟩:=x1a F h8 h0
 have cp:∀d1:Option D,z2c (some (T.map z2v)) (z2e z3x (z0w (z2S z9B [z0d 3])) [some (.scr ns),d1,some (z0A T)])=some (T.map z2v):=fun d1=>by
  refine z1W (enc:=z2v) (xs:=T) z2v (by rw [F.sq.1];omega) fun r _=>?_
  have lr:z9B [z2v r]=some (r.map bD):=rfl
  simp! only [lr,z1T (z1c _)]
  rfl
 have lT:D.lst (T.map z2v)=z0A T:=rfl
 have sT:y4W (z0A T)=some (T.map z2v):=rfl
 simp_all! only [g_law,e0,et,sT,cp,lT,ea,ep,y4m F h0 h8 G1,y4m F h0 h8 G,z0b]
end Prg
open PySem PySem.W PyProof.Rows
set_option maxRecDepth 100000 in
set_option maxHeartbeats 0 in
theorem PySem.Challenge.cw_askorder_k78_whole_shares_holds : PySem.Challenge.rw_askorder_k78_whole_shares.Holds := by
 w_on;o_law;k_head;(case hw=>w_witness2)
 k_fill
 refine Prg.walk (l:=PySem.Challenge.rw_askorder_k78_whole_shares) rfl rfl Prg.law_true (fun w h Y=>PySem.W.kIn_of Y) ?F
 case F=>
  intro w mg fa h KX G hmg
  refine' Prg.all_mk KX G hmg ?h_part ?h_picked ?h_column ?h_beaten_by ?h_beaters_of ?h_beats_all ?h_places_true ?h_covers ?h_uncovered ?h_is_covered ?h_pairing_sum ?h_sign ?h_turned_sign ?h_without ?h_kernel ?h_score ?h_weight_of ?h_is_even ?h_is_even_at ?h_weighing ?h_odd_picks ?h_weights_on ?h_common_divisor ?h_divisor_of_two ?h_reached ?h_steps_from ?h_rings ?h_places_with ?h_stands_together ?h_parting ?h_sees_as_one ?h_closure ?h_parts ?h_greatest_with ?h_leads_to_all ?h_is_thing ?h_tells_each_once ?h_places_of ?h_folded ?h__law_whole ?h__law_cell_at ?h__law_table_by ?h__law_mixed ?h__law_beats ?h__law_table ?h__law_pieces ?h__law_part ?h__law_weights ?h__law_right ?a_law ?l_law ?c_law ?k_law ?x_BadParts ?q_BadParts ?z_all ?z_enumerate ?z_range ?z_len ?z_any ?z_sum ?z_min ?z_max ?z_abs ?z_zip ?z_sorted ?z_set ?z_int ?z_isinstance ?z_bool ?z_list
  (case a_law | l_law | c_law | k_law | x_BadParts | z_all | z_enumerate | z_range | z_len | z_any | z_sum | z_min | z_max | z_abs | z_zip | z_sorted | z_set | z_int | z_isinstance | z_bool | z_list=>k_is)
  (case h_part | h_picked | h_column | h_beaten_by | h_beaters_of | h_beats_all | h_places_true | h_covers | h_uncovered | h_is_covered | h_pairing_sum | h_sign | h_turned_sign | h_without | h_kernel | h_score | h_weight_of | h_is_even | h_is_even_at | h_weighing | h_odd_picks | h_weights_on | h_common_divisor | h_divisor_of_two | h_reached | h_steps_from | h_rings | h_places_with | h_stands_together | h_parting | h_sees_as_one | h_closure | h_parts | h_greatest_with | h_leads_to_all | h_is_thing | h_tells_each_once | h_places_of | h_folded | h__law_whole | h__law_cell_at | h__law_table_by | h__law_mixed | h__law_beats | h__law_table | h__law_pieces | h__law_part | h__law_weights | h__law_right=>exact⟨_,_,by k_is,L2.fun_mk (by k_is) (by k_is) (by k_is)⟩)
  (case q_BadParts=>first | k_exc | kernel_rfl!)
