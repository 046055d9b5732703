import PyProof.Rows.All
import Wide.All
import OpenK.AllK
import Wide.FinOn
import Lean
import PyProof.EqAt
import PyProof.EqKinds
import PyProof.TupleCall
import PySem.Challenge.RW_askorder_k85_where_a_thing_stands
set_option Elab.async false
set_option linter.all false
set_option maxRecDepth 100000
open PySem.W renaming Frag → aa, nsIn → aA, mg_none_of → aM, kitOne → aN, findIn → aU, kia_one → bc, fnOf → bv, keepIn → bH, mroIn → bL, exmOne → bR, specialIn → bX, excIn → cz, takesIn → cE, codeIn → c3, InstAt → c4, methodObj → de, kitx_list → df, plainGet → dm, instObj → dB, findObj → dD, OpenLaw → dE, lookIn → dN, mg_of → dX, clsIn → dY, cellsFrom_some → eG, looks_findIn → eL, callWith_K → eT, plainOver → eZ, hasDictIn → e8
open List renaming getElem?_eq_getElem → ac, range → ad, mem_cons_of_mem → ae, mem_cons_self → af, mem_filter → ag, length_map → ah, replicate → ai, mem_range → ak, mem_cons → ao, mem_singleton → aq, mem_append → au, size_toArray → av, nodup_cons → aw, getElem?_map → ay, getD_eq_getElem?_getD → aB, map_cons → aC, length_append → aD, map_append → aF, all_eq_true → aI, map_map → aJ, append_nil → aL, getElem?_eq_some_iff → aO, mem_map → aP, mem_append_right → aQ, contains_iff_mem → aR, length_eq_zero_iff → aS, append_assoc → aT, getElem?_set_ne → aV, length_range → aW, length_filter_le → aX, length_cons → aY, getD → aZ, getElem?_append_left → ba, pairwise_cons → bb, nodup_nil → be, length_eraseIdx → bf, getElem?_append_right → bg, filter_cons → bh, ext_getElem → bi, drop_eq_getElem_cons → bj, replicate_succ → bn, map_congr_left → bp, not_mem_nil → bq, reverse_cons → br, mem_of_mem_eraseIdx → bw, getElem?_replicate → bA, flatten_cons → bB, filter_congr → bC, filter_eq_self → bF, sum_cons → bI, find?_cons → bM, nodup_append → bP, getElem?_set → bQ, getElem_mem → bT, getElem_map → bU, filter_eq_nil_iff → bV, filter_append → bW, length_set → bY, any_eq_false → b6, reverse_reverse → b8, mem_append_left → b9, any_eq_true → ca, length_pos_iff → cb, filterMap_cons → ce, getElem_append_left → cf, sum_append → cg, range_succ → ci, range' → cj, filter_cons_of_pos → ck, filter_cons_of_neg → cq, range_succ_eq_map → cr, findIdx_lt_length_of_exists → cv, eraseIdx_sublist → cB, lookup_cons → cC, drop_length → cD, nil_append → cG, getElem?_range → cI, map_nil → cJ, any_map → cK, perm_ext_iff_of_nodup → cN, getElem_append_right → cQ, contains_eq_any_beq → cT, any_cons → cU, take_of_length_le → cX, map_set → cY, getElem?_set_self → cZ, length_replicate → c6, getElem?_eq_none → c7, mem_of_getElem? → c8, mem_iff_getElem → c9, map_take → dg, map_drop → dh, set_cons_zero → di, set_cons_succ → dl, findIdx?_eq_some_iff_getElem → dz, range'_succ → dG, nodup_range → dH, mem_flatten → dI, length_take → dJ, length_drop → dL, getElem_set → dM, of_mem_zip → dQ, mem_zipIdx_iff_getElem? → dR, length_nil → dS, idxOf_lt_length_of_mem → dZ, nodup_iff_pairwise_ne → eh, drop_zero → eu, sublist_append_right → eJ, getElem?_cons_succ → eM, eraseIdx_cons_succ → eN, drop_of_length_le → eO, drop_eq_nil_of_le → eP, all_map → eQ, take_append_drop → eW, length_singleton → eX, range_eq_range' → ff, perm_cons_erase → fg, take_succ_cons → ft, length_reverse → fu, getElem_of_mem → fw, mem_filterMap → fy, foldl → fz, find?_eq_none → fA, append_of_mem → fB
open Option renaming bind_some → aj, map_some → bx, bind_none → bG, isSome_iff_exists → bN, getD_some → cA, isSome_map → cO, isSome_some → e9, getD_none → fx
open Nat renaming le_refl → am, le_trans → aG, ne_of_lt → aH, lt_of_lt_of_le → aK, zero_le → bu, lt_irrefl → bS, le_of_ble_eq_true → bZ, le_of_succ_le → b7, min_eq_left → cH, ne_of_gt → cL, le_of_lt → cM, mod_two_eq_zero_or_one → cP, lt_succ_of_lt → cS, le_add_right → cW, lt_of_le_of_lt → dq, le_succ_of_le → dF, succ_le_succ → dO, le_succ → dP, gcd → ef, not_lt → eI, sub_zero → eU, sub_self → eV, pow_le_pow_right → fq
open Bool renaming false_ne_true → ar, and_eq_true_iff → ax, and_eq_true → aE, not_eq_true' → cR, eq_iff_iff → dW, false_and → eD, true_and → eK, false_eq_true → fD
open Array renaming length_toList → bE, getElem?_eq_some_iff → bJ, getElem?_eq_getElem → eE
open Int renaming mul_nonneg → bK, toNat_natCast → cw, mul_le_mul_of_nonneg_right → cF, mul_pos → cV, mul_comm → c5, le_refl → dc, emod_lt_of_pos → dA, neg_mul → dU, mul_eq_zero → d8, emod_nonneg → d9, pos_of_mul_pos_left → eS, zero_add → eY
noncomputable abbrev PySem.W.Fast.tw15978364925580464081:=PySem.Challenge.pw_askorder_k85_where_a_thing_stands
theorem PySem.W.Fast.te15978364925580464081:PySem.Challenge.pw_askorder_k85_where_a_thing_stands=PySem.W.Fast.tw15978364925580464081:=rfl
open PySem renaming Program → dw, World → fE, FuncData → fF, assignEach → fG, behindInMarks → fH, backTo → fI, attributeBase → fJ, Keyword → fK, bootBuiltins → fL, binaryOp → fM, IsPair → fN, Scope → fO, assign → fP, backToKw → fQ
namespace PySem.W.Fast
def tw7718088710541001828:=0
def tw1440050337361614143:=0
def tw12044079776990463734:=0
def tw3341354254642917240:=0
def tw17319158659278877474:=0
def tw6479058738540215804:=0
def tw6208528977523178539:=0
def tw12315509109991570210:=0
def tw10800673673228296335:=0
def tw13665137379221242238:=0
def tw13872101912922263241:=0
def tw4227592901584984073:=0
def tw6247339073235144384:=0
def tw7576917942583595754:=0
def tw4978219972636723370:=0
def tw9894407567723124093:=0
def tw4194252320244450751:=0
def tw974100957688592099:=0
def tw8749843564713333196:=0
def tw15842460039851054779:=0
def tw1662185482113476516:=0
def tw8523191717847936766:=0
def tw8072946265757306872:=0
def tw4492982826995906142:=0
def tw18383069869972807483:=0
def tw6481354129216733589:=0
def tw10052889330796491823:=0
def tw1342408797405837076:=0
def tw9221940099882498499:=0
def tw5836307156307128976:=0
def tw17291853120906010637:=0
def tw11638885986908932629:=0
def tw13252598249422183730:=0
def tw13414991710321034986:=0
def tw14532216190698133353:=0
def tw4427958615941638358:=0
def tw8452485004135854172:=0
def tw7198094878924837916:=0
def tw14355861844180041586:=0
def tw12480501371956090921:=0
def tw443080291867964594:=0
def tw2272347449190515945:=0
def tw1590600141326800036:=0
def tw8731301164957569676:=0
def tw13160191244235561244:=0
def tw16969624355059645602:=0
def tw6781564032035441533:=0
def tw9098732247463498806:=0
def tw339107989173455130:=0
def tw8735756393655835607:=0
def tw11465969474672446787:=0
def tw9215880500367986625:=0
def tw12617087677434420881:=0
def tw5384204034882115719:=0
def tw16653490021158562991:=0
def tw11089813053524591277:=0
def tw9560145240308799075:=0
def tw8140980189598872788:=0
def tw4718167162501216776:=0
end PySem.W.Fast
namespace L2
open PySem PySem.Spec PyProof.Rows
abbrev Key:=Sum Int Str
def y3f:Key->Value->Bool
 |.inl k,v=>Value.isInt k v
 |.inr x,v=>Value.isStrOf x v
def keyH(w:fE):Key->Int
 |.inl k=>hashInt k
 |.inr x=>hashStr w x
theorem z0R:∀{k:Key} {v:Value},y3f k v=true->(∃i t,k=Sum.inl i∧v=Value.int i t)∨(∃x t,k=Sum.inr x∧v=Value.str x t)
 |.inl i,v,h=>by
  obtain⟨t,e⟩:=Value.isInt_shape (k:=i) (v:=v) h
  exact .inl ⟨i,t,rfl,e⟩
 |.inr x,v,h=>by
  obtain⟨t,e⟩:=Value.isStrOf_shape (x:=x) (v:=v) h
  exact .inr ⟨x,t,rfl,e⟩
theorem y9X(i:Int)(t:Tok):y3f (.inl i) (.int i t)=true:=by simp[y3f,Value.isInt]
theorem x0M(x:Str)(t:Tok):y3f (.inr x) (.str x t)=true:=by simp[y3f,Value.isStrOf]
theorem key_ll(a b:Int):decide ((Sum.inl a:Key)=Sum.inl b)=(a==b):=by
 by_cases e:a=b
 ·subst e;simp
 ·have h:¬ (Sum.inl a:Key)=Sum.inl b:=fun q=>e (Sum.inl.inj q)
  rw[decide_eq_false h]
  exact(beq_eq_false_iff_ne.mpr e).symm
theorem key_rr(a b:Str):decide ((Sum.inr a:Key)=Sum.inr b)=decide (a=b):=by
 by_cases e:a=b
 ·subst e;simp
 ·have h:¬ (Sum.inr a:Key)=Sum.inr b:=fun q=>e (Sum.inr.inj q)
  rw[decide_eq_false h,decide_eq_false e]
theorem key_lr(a:Int)(b:Str):decide ((Sum.inl a:Key)=Sum.inr b)=false:=decide_eq_false (fun q=>nomatch q)
theorem key_rl(a:Str)(b:Int):decide ((Sum.inr a:Key)=Sum.inl b)=false:=decide_eq_false (fun q=>nomatch q)
def z1k(prog:dw)(w:fE):PySem.KeyKind prog w Key where
 is:=y3f
 hash:=keyH w
 inj:=fun v a b ha hb=>by
  rcases z0R ha with⟨i,t,rfl,rfl⟩ | ⟨x,t,rfl,rfl⟩
  ·rcases z0R hb with⟨j,u,rfl,e⟩ | ⟨y,u,rfl,e⟩
   ·injection e with e1 _;rw[e1]
   ·exact nomatch e
  ·rcases z0R hb with⟨j,u,rfl,e⟩ | ⟨y,u,rfl,e⟩
   ·exact nomatch e
   ·injection e with e1 _;rw[e1]
 byValue:=fun k v h=>by
  rcases z0R h with⟨i,t,rfl,rfl⟩ | ⟨x,t,rfl,rfl⟩ <;> rfl
 pyHash:=fun hv h=>by
  rcases z0R hv with⟨i,t,rfl,rfl⟩ | ⟨x,t,rfl,rfl⟩
  ·exact wpAny_pyHash_int h
  ·exact wpAny_pyHash_str h
 eqBool:=fun hu hv h=>by
  rcases z0R hu with⟨i,t,rfl,rfl⟩ | ⟨x,t,rfl,rfl⟩
  ·rcases z0R hv with⟨j,u,rfl,rfl⟩ | ⟨y,u,rfl,rfl⟩
   ·rw[key_ll]at h;exact wpAny_eqBool_int h
   ·rw[key_lr]at h;exact SeqAt.EqAt.int_str i t y u _ _ _ _ h
  ·rcases z0R hv with⟨j,u,rfl,rfl⟩ | ⟨y,u,rfl,rfl⟩
   ·rw[key_rl]at h;exact SeqAt.EqAt.str_int x t j u _ _ _ _ h
   ·rw[key_rr]at h;exact wpAny_eqBool_str h
 «strs»:=fun k x t v h=>by
  rcases z0R h with⟨i,u,rfl,e⟩ | ⟨y,u,rfl,e⟩
  ·exact nomatch e
  ·injection e with e1 _
   subst e1
   cases v <;> rfl
theorem y3a(prog:dw)(w:fE)(i:Int)(t:Tok):(z1k prog w).is (.inl i) (.int i t)=true:=y9X i t
theorem y3g(prog:dw)(w:fE)(x:Str)(t:Tok):(z1k prog w).is (.inr x) (.str x t)=true:=x0M x t
inductive V where
 |non | bl (b:Bool) | int (i:Int) | str (x:Str) | byt (b:Array UInt8) | flt (b:UInt64) | ref (a:Addr) | ty (n:String)
 deriving DecidableEq
def RelV:V->Value->Prop
 |.non,u=>u=Value.none
 |.bl b,u=>u=Value.bool b
 |.int i,u=>∃t,u=Value.int i t
 |.str x,u=>∃t,u=Value.str x t
 |.byt b,u=>∃t,u=Value.bytes b t
 |.flt b,u=>∃t,u=Value.float b t
 |.ref a,u=>u=Value.ref a
 |.ty n,u=>u=Value.type n
abbrev Vals:List V->List Value->Prop:=Paired RelV
theorem Vals.length{xs:List V}{us:List Value}(r:Vals xs us):xs.length=us.length:=Paired.length r
theorem Vals.get:∀{xs:List V} {us:List Value} {i:Nat} {x:V},Vals xs us->xs[i]? = some x->∃u,us[i]? = some u∧RelV x u
 |_,_,_,_,.nil,e=>by simp at e
 |_,_,0,_,.cons r _,e=>by simp at e;subst e;exact⟨_,rfl,r⟩
 |_,_,i+1,x,.cons _ t,e=>by
  obtain⟨u,h1,h2⟩:=Vals.get (i:=i) (x:=x) t (by simpa using e)
  exact⟨u,by simpa using h1,h2⟩
theorem Vals.set{x:V}{u:Value}(r:RelV x u):∀{xs:List V} {us:List Value} (i:Nat),Vals xs us->Vals (xs.set i x) (us.set i u)
 |_,_,_,.nil=>.nil
 |_,_,0,.cons _ t=>.cons r t
 |_,_,i+1,.cons q t=>.cons q (Vals.set r i t)
theorem Vals.append:∀{xs ys:List V} {us ws:List Value},Vals xs us->Vals ys ws->Vals (xs++ys) (us++ws)
 |_,_,_,_,.nil,s=>s
 |_,_,_,_,.cons r t,s=>.cons r (Vals.append t s)
theorem Vals.take:∀{xs:List V} {us:List Value} (n:Nat),Vals xs us->Vals (xs.take n) (us.take n)
 |_,_,0,_=>.nil
 |_,_,_+1,.nil=>.nil
 |_,_,n+1,.cons r t=>.cons r (Vals.take n t)
theorem Vals.drop:∀{xs:List V} {us:List Value} (n:Nat),Vals xs us->Vals (xs.drop n) (us.drop n)
 |_,_,0,r=>r
 |_,_,_+1,.nil=>.nil
 |_,_,n+1,.cons _ t=>Vals.drop n t
def RelO:Option V->Option Value->Prop
 |some v,some u=>RelV v u
 |none,none=>True
 |_,_=>False
def KV{κ:Type}:List (κ×V)->List (κ×Value)->Prop:=Paired fun(p:κ×V) (q:κ×Value)=>p.1=q.1∧RelV p.2 q.2
def kV:Key->V
 |.inl i=>.int i
 |.inr x=>.str x
inductive HO where
 |lst (xs:List V)
 |tup (xs:List V)
 |dK (kvs:List (Key×V)) | dT (kvs:List (List Key×V))
 |set (S:Int->Bool) (n:Nat)
 |ins (C dx:Addr) (fs:List (Str×V))
 |own (x:Addr)
 |xd (fs:List (Str×V))
 |met (f x:Addr)
 |rng (lo hi:Int)
 |frz (o:Obj) (u:HO)
 |tbl (ps:Array Value)
 |ext (φ:Heap->Prop)
abbrev Hp:=Addr->Option HO
def upd(H:Hp)(a:Addr)(o:HO):Hp:=fun b=>if b=a then some o else H b
theorem z0o{H:Hp}{a:Addr}{o:HO}:upd H a o a=some o:=by unfold upd;rw[if_pos rfl]
theorem z0v{H:Hp}{a b:Addr}{o:HO}(h:b≠a):upd H a o b=H b:=by unfold upd;rw[if_neg h]
theorem ne_of{H:Hp}{a b:Addr}{o u:HO}(h:H a=some o)(h':H b=some u)(d:o≠u):a≠b:=by
 intro e;subst e;rw[h]at h';exact d (Option.some.inj h')
theorem z1s{H:Hp}{a b:Addr}{o:HO}(h:H a=some o)(h':H b=none):a≠b:=by
 intro e;subst e;rw[h]at h';cases h'
section
variable(P:dw)(w:fE)
def TupN(h:Heap)(a:Addr)(items:Array Value):Prop:=∃o,h.get? a=some o∧(o.cls = .type "tuple" ∧ o.dict=none)∧∃n,o.data = .seq items n
theorem TupN.is{h:Heap}{a:Addr}{items:Array Value}(x:TupN h a items):IsTup h a items:=let⟨o,e,c,n⟩:=x;⟨o,e,c.1,n⟩
theorem TupN.lt{h:Heap}{a:Addr}{items:Array Value}(x:TupN h a items):a<h.objs.size:=x.is.lt
theorem TupN.new(h:Heap)(items:Array Value):TupN (h.push { cls:=.type "tuple",data:=.seq items }) h.objs.size items:=⟨_,Heap.get?_push_size _ rfl,⟨rfl,rfl⟩,_,rfl⟩
def ObjOk(H:Hp)(h:Heap)(a:Addr):HO->Prop
 |.lst xs=>xs.length≤sizeLine∧∃(its:List Value) (n:Nat),Vals xs its∧h.get? a=some { cls:=.type "list",data:=.seq its.toArray n }
 |.tup xs=>xs.length≤sizeLine∧∃its:List Value,Vals xs its∧TupN h a its.toArray
 |.dK kvs=>kvs.length≤sizeLine∧(a==sysModules)=false∧∃vs,KV kvs vs∧h.DictOf (z1k P w) a vs
 |.dT kvs=>kvs.length≤sizeLine∧(a==sysModules)=false∧∃xs:List (List Key×Addr×Value),
   Paired (fun(p:List Key×V) (q:List Key×Addr×Value)=>p.1=q.1∧H q.2.1=some (.tup (p.1.map kV))∧RelV p.2 q.2.2) kvs xs ∧
   ∃o es ep,h.get? a=some o∧o.ExactDict∧o.data = .dict es ep∧es.toList=xs.map (entryOfKey (tupleKind (z1k P w)))∧(xs.map (·.1)).Nodup
 |.set S n=>h.SetOf (intKind P w) a S n
 |.ins C dx fs=>H dx=some (.own a)∧fs.length≤1000∧dx≠a∧h.get? a=some (dB C dx) ∧
   ∃mA,h.Ns1 dx mA∧(∀f,RelO (fs.lookup f) (mA f))∧PySem.Within mA (fs.map (·.1))
 |.own _=>∃o,h.get? a=some o
 |.xd fs=>∃mA,h.Ns1 a mA∧∀f,RelO (fs.lookup f) (mA f)
 |.rng lo hi=>∃t u v,h.get? a=some { cls:=.type "range",data:=.fields #[.int lo t,.int hi u,.int 1 v] }
 |.frz o u=>h.get? a=some o∧ObjOk H h a u
 |.tbl ps=>h.get? a=some { cls:=.none,data:=.fields ps }
 |.met f x=>h.get? a=some (de (.ref f) (.ref x))
 |.ext φ=>φ h∧(∃o,h.get? a=some o)∧∀h1 h2:Heap,φ h1->(∀o,h1.get? a=some o->h2.get? a=some o)->φ h2
def HOk(H:Hp)(h:Heap):Prop:=∀a o,H a=some o->ObjOk P w H h a o
end
section
variable{P:dw}{w:fE}{H H':Hp}{h h':Heap}{a:Addr}{o:HO}
theorem ObjOk.lt(x:ObjOk P w H h a o):a<h.objs.size:=by
 cases o with
 |lst xs=>obtain⟨_,_,_,_,e⟩:=x;exact Heap.lt_size e
 |tup xs=>obtain⟨_,_,_,p⟩:=x;exact p.lt
 |dK kvs=>obtain⟨_,_,_,_,o,_,_,e,_⟩:=x;exact Heap.lt_size e
 |dT kvs=>obtain⟨_,_,_,_,o,_,_,e,_⟩:=x;exact Heap.lt_size e
 |set S n=>obtain⟨o,_,_,_,e,_⟩:=x;exact Heap.lt_size e
 |ins C dx fs=>obtain⟨_,_,_,e,_⟩:=x;exact Heap.lt_size e
 |own y=>obtain⟨_,e⟩:=x;exact Heap.lt_size e
 |xd fs=>obtain⟨_,⟨_,_,_,e,_⟩,_⟩:=x;exact Heap.lt_size e
 |rng lo hi=>obtain⟨_,_,_,e⟩:=x;exact Heap.lt_size e
 |frz ob u=>obtain⟨e,_⟩:=x;exact Heap.lt_size e
 |tbl ps=>exact Heap.lt_size (show h.get? a=some _ from x)
 |met f y=>exact Heap.lt_size (show h.get? a=some _ from x)
 |ext φ=>obtain⟨_,⟨_,e⟩,_⟩:=x;exact Heap.lt_size e
theorem Paired.mapP{α β:Type}{F G:α->β->Prop}:∀{l₁:List α} {l₂:List β},Paired F l₁ l₂->(∀a b,F a b->G a b)->Paired G l₁ l₂
 |_,_,.nil,_=>.nil
 |_,_,.cons r t,f=>.cons (f _ _ r) (Paired.mapP t f)
theorem ObjOk.stay(x:ObjOk P w H h a o)(k:∀b u,(b=a∨H b=some (.own a))->h.get? b=some u->h'.get? b=some u)
  (ho:∀b,H b=some (.own a)->H' b=some (.own a)) (ht:∀b xs,H b=some (.tup xs)->H' b=some (.tup xs)):ObjOk P w H' h' a o:=by
 induction o with
 |lst xs=>obtain⟨z,its,n,r,e⟩:=x;exact⟨z,its,n,r,k _ _ (.inl rfl) e⟩
 |tup xs=>obtain⟨z,its,r,ob,e,c⟩:=x;exact⟨z,its,r,ob,k _ _ (.inl rfl) e,c⟩
 |dK kvs=>obtain⟨z,y,vs,r,ob,es,ep,e,c⟩:=x;exact⟨z,y,vs,r,ob,es,ep,k _ _ (.inl rfl) e,c⟩
 |dT kvs=>
  obtain⟨z,y,xs,r,ob,es,ep,e,c⟩:=x
  exact⟨z,y,xs,Paired.mapP r fun p q z=>⟨z.1,ht _ _ z.2.1,z.2.2⟩,ob,es,ep,k _ _ (.inl rfl) e,c⟩
 |set S n=>obtain⟨ob,es,ep,t,e,c⟩:=x;exact⟨ob,es,ep,t,k _ _ (.inl rfl) e,c⟩
 |ins C dx fs=>
  obtain⟨d,z,ne,e,mA,⟨od,es,ep,e2,c⟩,r⟩:=x
  exact⟨ho _ d,z,ne,k _ _ (.inl rfl) e,mA,⟨od,es,ep,k _ _ (.inr d) e2,c⟩,r⟩
 |own y=>obtain⟨ob,e⟩:=x;exact⟨ob,k _ _ (.inl rfl) e⟩
 |xd fs=>obtain⟨mA,⟨od,es,ep,e,c⟩,r⟩:=x;exact⟨mA,⟨od,es,ep,k _ _ (.inl rfl) e,c⟩,r⟩
 |rng lo hi=>obtain⟨t,u,v,e⟩:=x;exact⟨t,u,v,k _ _ (.inl rfl) e⟩
 |frz ob u ih=>obtain⟨e,q⟩:=x;exact⟨k _ _ (.inl rfl) e,ih q⟩
 |tbl ps=>
  have e:h.get? a=some { cls:=.none,data:=.fields ps }:=x
  show h'.get? a=some { cls:=.none,data:=.fields ps }
  exact k a _ (.inl rfl) e
 |met f y=>
  have e:h.get? a=some (de (.ref f) (.ref y)):=x
  show h'.get? a=some (de (.ref f) (.ref y))
  exact k a _ (.inl rfl) e
 |ext φ=>obtain⟨p,⟨o,e⟩,st⟩:=x;exact⟨st _ _ p fun o q=>k _ _ (.inl rfl) q,⟨o,k _ _ (.inl rfl) e⟩,st⟩
theorem HOk.lt(x:HOk P w H h)(e:H a=some o):a<h.objs.size:=(x a o e).lt
theorem HOk.fresh(x:HOk P w H h)(e:h.objs.size≤a):H a=none:=by
 cases q:H a with
 |none=>rfl
 |some u=>exact absurd (aK (x.lt q) e) (bS _)
theorem HOk.kept(x:HOk P w H h)(k:∀b u,h.get? b=some u->h'.get? b=some u):HOk P w H h':=fun a o e=>
 (x a o e).stay (fun b u _ q=>k b u q) (fun _ q=>q) fun _ _ q=>q
theorem HOk.laid(x:HOk P w H h)(k:∀b u,h.get? b=some u->h'.get? b=some u)(hp:h.objs.size≤a)(new:ObjOk P w (upd H a o) h' a o):HOk P w (upd H a o) h':=fun b u e=>by
 have hn:=x.fresh hp
 by_cases hb:b=a
 ·subst hb;rw[z0o]at e;cases e;exact new
 ·rw[z0v hb]at e
  exact(x b u e).stay (fun c v _ q=>k c v q) (fun c q=>by rw[z0v (z1s q hn)];exact q) fun c xs q=>by rw[z0v (z1s q hn)];exact q
end
def Rd(H:Hp)(a:Addr)(u:HO):Prop:=H a=some u∨∃o,H a=some (.frz o u)
theorem Rd.ok{P:dw}{w:fE}{H:Hp}{h:Heap}{a:Addr}{u:HO}(r:Rd H a u)(x:HOk P w H h):ObjOk P w H h a u:=by
 rcases r with r | ⟨o,r⟩
 ·exact x a u r
 ·obtain⟨_,q⟩:=x a _ r
  exact q
def Mut:Option HO->Prop
 |some (.lst _)=>True
 |some (.dK _)=>True
 |some (.dT _)=>True
 |some (.set _ _)=>True
 |some (.ins _ _ _)=>True
 |some (.ext _)=>True
 |_=>False
section
variable{P:dw}{w:fE}{H:Hp}{h h':Heap}{x e:Addr}{o':HO}
theorem HOk.write(ok:HOk P w H h)(mu:Mut (H x))(he:e=x∨H e=some (.own x))(k:∀b u,b≠e->h.get? b=some u->h'.get? b=some u)(heo:∃u,h'.get? e=some u)
  (new:ObjOk P w (upd H x o') h' x o'):HOk P w (upd H x o') h':=fun b u q=>by
 have nown:∀c y,H c=some (.own y)->c≠x:=fun c y r z=>by subst z;rw[r]at mu;exact mu
 have ntup:∀c xs,H c=some (.tup xs)->c≠x:=fun c xs r z=>by subst z;rw[r]at mu;exact mu
 by_cases hb:b=x
 ·subst hb;rw[z0o]at q;cases q;exact new
 ·rw[z0v hb]at q
  by_cases hbe:b=e
  ·have q':H b=some (.own x):=by
    rcases he with z | z
    ·exact absurd (hbe.trans z) hb
    ·rw[hbe];exact z
   rw[q]at q';cases q'
   obtain⟨v,hv⟩:=heo
   exact⟨v,by rw[hbe];exact hv⟩
  ·refine(ok b u q).stay (fun c v hc r=>k c v ?_ r) (fun c r=>by rw[z0v (nown c b r)];exact r) fun c xs r=>by rw[z0v (ntup c xs r)];exact r
   rcases hc with rfl | hc
   ·exact hbe
   ·rintro rfl
    rcases he with z | z
    ·exact nown c b hc z
    ·rw[hc]at z;cases z;exact hb rfl
end
structure Un(fs ex:List Addr)(H H':Hp)(h h':Heap):Prop where
 keep:∀b o,h.get? b=some o->H b=none->b∉fs->b∉ex->h'.get? b=some o
 slot:∀b o,h.get? b=some o->H b=none->b∈fs->b∉ex->∃sl,h'.get? b=some { o with slots:=sl }
 free:∀b o,h.get? b=some o->H b=none->b∉ex->H' b=none
 there:∀b o,h.get? b=some o->b∉ex->∃o',h'.get? b=some o'
 tups:∀b xs,H b=some (.tup xs)->H' b=some (.tup xs)
 frzs:∀b o u,H b=some (.frz o u)->H' b=some (.frz o u)
 tbls:∀b ps,H b=some (.tbl ps)->∃more,H' b=some (.tbl (ps++more))
section
variable{fs ex:List Addr}{H H1:Hp}{h h1 h':Heap}{a x e:Addr}{o:HO}
theorem Un.any(u:Un fs ex H H1 h h1){b:Addr}{ob:Obj}(q:h.get? b=some ob)(n:H b=none)(hx:b∉ex):∃sl,h1.get? b=some { ob with slots:=sl }:=by
 by_cases hb:b∈fs
 ·exact u.slot b ob q n hb hx
 ·exact⟨ob.slots,u.keep b ob q n hb hx⟩
theorem Un.kept(k:∀b u,h.get? b=some u->h'.get? b=some u):Un fs ex H H h h':=
 ⟨fun b ob q _ _ _=>k b ob q,fun b ob q _ _ _=>⟨ob.slots,k b ob q⟩,fun _ _ _ n _=>n,fun b ob q _=>⟨ob,k b ob q⟩,fun _ _ q=>q,fun _ _ _ q=>q,fun _ ps q=>⟨#[],by rw[q];simp⟩⟩
theorem Un.refl:Un fs ex H H h h:=Un.kept fun _ _ q=>q
theorem Un.laid(k:∀b u,h.get? b=some u->h'.get? b=some u)(hp:h.objs.size≤a)(hn:H a=none):Un fs ex H (upd H a o) h h' where
 keep:=fun b u q _ _ _=>k b u q
 slot:=fun b u q _ _ _=>⟨u.slots,k b u q⟩
 free:=fun b u q n _=>by rw[z0v (aH (aK (Heap.lt_size q) hp))];exact n
 there:=fun b u q _=>⟨u,k b u q⟩
 tups:=fun b xs q=>by rw[z0v (z1s q hn)];exact q
 frzs:=fun b u xs q=>by rw[z0v (z1s q hn)];exact q
 tbls:=fun b ps q=>⟨#[],by rw[z0v (z1s q hn),q];simp⟩
theorem Un.write(mu:Mut (H x))(he:e=x∨H e=some (.own x))(k:∀b u,b≠e->h.get? b=some u->h'.get? b=some u)(heo:∃u,h'.get? e=some u):Un fs ex H (upd H x o) h h':=by
 have hx:∀b,H b=none->b≠x:=fun b n z=>by subst z;rw[n]at mu;exact mu
 have hb:∀b,H b=none->b≠e:=fun b n z=>by
  subst z
  rcases he with r | r
  ·exact hx b n r
  ·rw[n]at r;cases r
 have hm:∀b u,H b=some u->¬ Mut (some u)->b≠x:=fun b u q nm z=>by subst z;rw[q]at mu;exact nm mu
 refine⟨fun b u q n _ _=>k b u (hb b n) q,fun b u q n _ _=>⟨u.slots,k b u (hb b n) q⟩,fun b u q n _=>by rw[z0v (hx b n)];exact n,fun b u q _=>?_,
  fun b xs q=>by rw[z0v (hm b _ q fun z=>z)];exact q,fun b u xs q=>by rw[z0v (hm b _ q fun z=>z)];exact q,fun b ps q=>⟨#[],by rw[z0v (hm b _ q fun z=>z),q];simp⟩⟩
 by_cases hbe:b=e
 ·subst hbe;exact heo
 ·exact⟨u,k b u hbe q⟩
end
def trk(h:Heap)(H:Hp):List Addr:=(ad h.objs.size).filter fun a=>(H a).isSome
def x3R(h:Heap)(H:Hp):Heap:=PySem.W.hideAll h (trk h H)
theorem x0p(h:Heap)(H:Hp):(x3R h H).objs.size=h.objs.size:=PySem.W.hideAll_size _ _
theorem x3O{h:Heap}{H:Hp}{b:Addr}{o:Obj}(e:h.get? b=some o)(n:H b=none):(x3R h H).get? b=some o:=
 PySem.W.hideAll_get _ e fun hm=>by
  have q:(H b).isSome=true:=(ag.mp hm).2
  rw[n]at q;simp at q
theorem of_hidT{h:Heap}{H:Hp}{b:Addr}{o:Obj}(e:(x3R h H).get? b=some o):h.get? b=some o∧H b=none:=by
 have e':h.get? b=some o:=PySem.W.of_hideAll (trk h H) e
 refine⟨e',?_⟩
 cases q:H b with
 |none=>rfl
 |some x=>
  have hm:b∈trk h H:=ag.mpr ⟨ak.mpr (Heap.lt_size e'),by simp[q]⟩
  have z:(x3R h H).get? b=none:=PySem.W.hideAll_none (trk h H) hm
  rw[z]at e;cases e
def allNews(g h:Heap)(L:Addr):List (Addr×Obj):=(ad h.objs.size).filterMap fun a=>if a=L∨(g.get? a).isSome=true then none else(h.get? a).map fun o=>(a,o)
def rest(g h:Heap)(L d:Addr):List (Addr×Obj):=(allNews g h L).filter fun p=>decide (p.1≠d)
structure Mod(K:aa)(mg:Str->Option Value)(base:Heap):Prop where
 kin:K.In base
 glob:base.Ns mainGlobals mg
 blt:∃mb,base.Ns builtinsNs mb∧∀x:Str,x ≠ "__name__" → mb x=fL x
 nolimit:base.NoLimit
structure Cx where
 prog:dw
 w:fE
 K:aa
 mg:Str->Option Value
 base:Heap
 A:Around
 N:List Str
 s₀:Shared
 H₀:Hp
 env:Env
 outer:List Env
 stack:List Env
 ex:List Addr
 fn:Str->Bool
 calm:Bool
 pn:List (Addr×Obj)
 xe:Value->Shared->Prop
def frs(l:List Env):List Addr:=l.filterMap (·.frame)
abbrev Cx.fs(X:Cx):List Addr:=frs X.outer
def Vis(sc:fO)(x:Str):Prop:=sc.names.lookup x=some .local∨sc.names.lookup x=some .cell∨sc.names.lookup x=some .free
def Loc(sc:fO)(x:Str):Prop:=sc.names.lookup x=some .local∨sc.names.lookup x=some .cell
def Look(env:Env)(h:Heap)(m:Str->Option Value)(x:Str)(u:Value):Prop:=
 (env.kindOf x=some .local∧m x=some u)∨((env.kindOf x=some .cell∨env.kindOf x=some .free)∧∃c,env.cells.lookup x=some c∧h.IsCell c (some u))
structure Cx.Ok(X:Cx):Prop where
 mod:Mod X.K X.mg X.base
 kind:X.env.scope.kind = .function
 glob:X.env.globals=mainGlobals
 blt:X.env.builtins=builtinsNs
 above:X.s₀.heap.objs.size≤X.env.locals
 inj:∀x y c,X.env.cells.lookup x=some c->X.env.cells.lookup y=some c->x=y
 has:∀x,(X.env.kindOf x=some .cell∨X.env.kindOf x=some .free)->∃c,X.env.cells.lookup x=some c
 cab:∀x c,X.fn x=true->X.env.cells.lookup x=some c->X.s₀.heap.objs.size≤c
 hd:X.calm=true->X.A.handled=none
 frames:X.A.frames=some X.stack
 stk:X.stack=X.outer∨(X.stack=X.env::X.outer∧X.env.frame=some X.env.locals)
 exf:∀b∈X.ex,b≠X.env.locals∧∀x c,X.env.cells.lookup x=some c->c≠b
 bs:∀b o,X.base.get? b=some o->X.s₀.heap.get? b=some o∧X.H₀ b=none
 bsz:X.base.objs.size≤X.s₀.heap.objs.size
 noex:∀b o,X.base.get? b=some o->b∉X.ex
 exfs:∀b∈X.ex,b∉X.fs
 funs:X.s₀.heap.FunFrames X.base X.outer
 frf:∀b∈X.fs,X.H₀ b=none
structure Inv(X:Cx)(pins:List (Addr×Obj))(σ:List (Option V))(H:Hp)(s:Shared):Prop where
 ok:X.Ok
 os:s.os=X.s₀.os
 bare:AllBare s.gens
 base:Un X.fs X.ex X.H₀ H X.s₀.heap s.heap
 loc:∃m,s.heap.Ns X.env.locals m∧∀(i:Nat) (x:Str) (v:V),X.N[i]? = some x->σ[i]? = some (some v)->Vis X.env.scope x->∃u,RelV v u∧Look X.env s.heap m x u
 cell:∀x c,X.env.cells.lookup x=some c->∃v,s.heap.IsCell c v
 free:H X.env.locals=none
 freeC:∀x c,X.env.cells.lookup x=some c->H c=none
 pin:∀p∈X.pn++pins,s.heap.get? p.1=some p.2∧H p.1=none∧p.1≠X.env.locals∧p.1∉X.fs∧∀v,p.2.data≠.cell v
 hok:HOk X.prog X.w H s.heap
 len:σ.length=X.N.length
section
variable{X:Cx}{pins:List (Addr×Obj)}{σ:List (Option V)}{H H':Hp}{s:Shared}{h':Heap}
theorem Cx.Ok.nofr(ok:X.Ok){b:Addr}{o:Obj}(e:X.base.get? b=some o):b∉X.fs:=fun hb=>by
 have:=(ok.funs.mem hb).1
 rw[e]at this;cases this
theorem Inv.bs(I:Inv X pins σ H s):∀b o,X.base.get? b=some o->s.heap.get? b=some o∧H b=none:=fun b o e=>
 ⟨I.base.keep b o (I.ok.bs b o e).1 (I.ok.bs b o e).2 (I.ok.nofr e) (I.ok.noex b o e),I.base.free b o (I.ok.bs b o e).1 (I.ok.bs b o e).2 (I.ok.noex b o e)⟩
theorem Inv.bk(I:Inv X pins σ H s):∀b o,X.base.get? b=some o->s.heap.get? b=some o:=fun b o e=>(I.bs b o e).1
theorem Inv.mod(I:Inv X pins σ H s):Mod X.K X.mg X.base:=I.ok.mod
theorem Inv.kIn(I:Inv X pins σ H s):X.K.In s.heap:=I.ok.mod.kin.keeps I.bk
theorem Inv.lt(I:Inv X pins σ H s):X.env.locals<s.heap.objs.size:=let⟨_,hn,_⟩:=I.loc;hn.lt
theorem Inv.sz(I:Inv X pins σ H s):X.s₀.heap.objs.size≤s.heap.objs.size:=aG I.ok.above (cM I.lt)
theorem Inv.nofs(I:Inv X pins σ H s){a:Addr}(h:s.heap.objs.size≤a):a∉X.fs:=fun hb=>by
 obtain⟨_,o,ho,_⟩:=I.ok.funs.mem hb
 exact absurd (aK (Heap.lt_size ho) (aG I.sz h)) (bS _)
theorem Inv.cne(I:Inv X pins σ H s):∀x c,X.env.cells.lookup x=some c->c≠X.env.locals:=fun x c e z=>by
 obtain⟨v,o,ho,hd⟩:=I.cell x c e
 obtain⟨m,⟨o',es,ep,ho',hd',_⟩,_⟩:=I.loc
 rw[z,ho']at ho;cases ho;rw[hd']at hd;cases hd
theorem Inv.funs(I:Inv X pins σ H s):s.heap.FunFrames X.base X.outer:=by
 have all:∀(l:List Env),(∀b∈frs l,b∈X.fs)->X.s₀.heap.FunFrames X.base l->s.heap.FunFrames X.base l:=by
  intro l
  induction l with
  |nil=>intro _ _;trivial
  |cons env r ih=>
   intro hs hl
   obtain⟨hk,⟨L,o,hf,hn,ho,hd⟩,hr⟩:=hl
   have hL:L∈X.fs:=hs L (by unfold frs;rw[ce,hf];exact af)
   obtain⟨sl,e⟩:=I.base.slot L o ho (I.ok.frf L hL) hL fun z=>I.ok.exfs L z hL
   exact⟨hk,⟨L,_,hf,hn,e,hd⟩,ih (fun b hb=>hs b (by unfold frs;rw[ce,hf];exact ae _ hb)) hr⟩
 exact all X.outer (fun _ hb=>hb) I.ok.funs
theorem Inv.stack(I:Inv X pins σ H s):s.heap.FunFrames X.base X.stack:=by
 rcases I.ok.stk with e | ⟨e,hf⟩
 ·rw[e];exact I.funs
 ·rw[e]
  obtain⟨m,hn,_⟩:=I.loc
  refine .cons (by rw[I.ok.kind];decide) hf hn ?_ I.funs
  exact Heap.get?_none_of_le (aG I.ok.bsz I.ok.above)
theorem Inv.stkSub(I:Inv X pins σ H s):∀b∈frs X.stack,b∈X.env.locals::X.fs:=fun b hb=>by
 rcases I.ok.stk with e | ⟨e,hf⟩
 ·rw[e]at hb;exact ae _ hb
 ·rw[e]at hb
  unfold frs at hb
  rw[ce,hf]at hb
  exact hb
theorem Inv.stkFree(I:Inv X pins σ H s):∀b∈frs X.stack,H b=none:=fun b hb=>by
 rcases ao.mp (I.stkSub b hb)with e | hb
 ·rw[e];exact I.free
 ·obtain⟨_,o,ho,_⟩:=I.ok.funs.mem hb
  exact I.base.free b o ho (I.ok.frf b hb) fun z=>I.ok.exfs b z hb
theorem Inv.step{g':Array GenState}{t':Nat}{d':Drawn}{ch:List Addr}(I:Inv X pins σ H s)
  (hch:∀b∈ch,(b∈X.ex∨X.s₀.heap.objs.size≤b)∧b≠X.env.locals∧(∀x c,X.env.cells.lookup x=some c->c≠b)∧∀p∈X.pn++pins,p.1≠b)
  (keep:∀b o,b≠X.env.locals->b∉X.fs->b∉ch->s.heap.get? b=some o->H b=none->h'.get? b=some o)
  (slot:∀b o,b≠X.env.locals->b∈X.fs->b∉ch->s.heap.get? b=some o->H b=none->∃sl,h'.get? b=some { o with slots:=sl }) (free:∀b o,b∉ch->s.heap.get? b=some o->H b=none->H' b=none)
  (there:∀b o,b∉ch->s.heap.get? b=some o->∃o',h'.get? b=some o')
  (tups:∀b xs,H b=some (.tup xs)->H' b=some (.tup xs)) (frzs:∀b o u,H b=some (.frz o u)->H' b=some (.frz o u)) (tbls:∀b ps,H b=some (.tbl ps)->∃more,H' b=some (.tbl (ps++more)))
  (ns:∀m,s.heap.Ns X.env.locals m->h'.Ns X.env.locals m) (hok:HOk X.prog X.w H' h') (hg:AllBare g'):
  Inv X pins σ H' { s with heap:=h',gens:=g',drawn:=d',toks:=t' }:=by
 have neL:∀b o,X.s₀.heap.get? b=some o->b≠X.env.locals:=fun b o e=>aH (aK (Heap.lt_size e) I.ok.above)
 have neC:∀b o,X.s₀.heap.get? b=some o->b∉X.ex->b∉ch:=fun b o e hx hb=>by
  rcases (hch b hb).1 with z | z
  ·exact hx z
  ·exact absurd (aK (Heap.lt_size e) z) (bS _)
 have cellK:∀x c,X.env.cells.lookup x=some c->∀v,s.heap.IsCell c v->h'.IsCell c v:=fun x c e v ⟨o,ho,hd⟩=>by
  have nch:c∉ch:=fun z=>(hch c z).2.2.1 x c e rfl
  by_cases hc:c∈X.fs
  ·obtain⟨sl,q⟩:=slot c o (I.cne x c e) hc nch ho (I.freeC x c e)
   exact⟨_,q,hd⟩
  ·exact⟨o,keep c o (I.cne x c e) hc nch ho (I.freeC x c e),hd⟩
 refine⟨I.ok,I.os,hg,⟨fun b o e n hb hx=>?_,fun b o e n hb hx=>?_,fun b o e n hx=>?_,fun b o e hx=>?_,fun b xs e=>tups b xs (I.base.tups b xs e),fun b o xs e=>frzs b o xs (I.base.frzs b o xs e),fun b ps e=>?_⟩,?_,fun x c e=>?_,?_,fun x c e=>?_,fun p hp=>?_,hok,I.len⟩
 ·exact keep b o (neL b o e) hb (neC b o e hx) (I.base.keep b o e n hb hx) (I.base.free b o e n hx)
 ·obtain⟨sl,e1⟩:=I.base.slot b o e n hb hx
  obtain⟨sl',e2⟩:=slot b _ (neL b o e) hb (neC b o e hx) e1 (I.base.free b o e n hx)
  exact⟨sl',e2⟩
 ·obtain⟨o',e1⟩:=I.base.there b o e hx
  exact free b o' (neC b o e hx) e1 (I.base.free b o e n hx)
 ·obtain⟨o',e1⟩:=I.base.there b o e hx
  exact there b o' (neC b o e hx) e1
 ·obtain⟨m1,e1⟩:=I.base.tbls b ps e
  obtain⟨m2,e2⟩:=tbls b _ e1
  exact⟨m1++m2,by rw[e2,Array.append_assoc]⟩
 ·obtain⟨m,hn,hl⟩:=I.loc
  refine⟨m,ns m hn,fun i x v e1 e2 e3=>?_⟩
  obtain⟨u,r,l⟩:=hl i x v e1 e2 e3
  refine⟨u,r,?_⟩
  rcases l with l | ⟨k,c,e,z⟩
  ·exact .inl l
  ·exact .inr ⟨k,c,e,cellK x c e _ z⟩
 ·obtain⟨v,z⟩:=I.cell x c e
  exact⟨v,cellK x c e v z⟩
 ·obtain⟨m,⟨o,_,_,ho,_⟩,_⟩:=I.loc
  exact free _ o (fun z=>(hch _ z).2.1 rfl) ho I.free
 ·obtain⟨v,o,ho,hd⟩:=I.cell x c e
  exact free c o (fun z=>(hch c z).2.2.1 x c e rfl) ho (I.freeC x c e)
 ·obtain⟨e,n,ne,nf,d⟩:=I.pin p hp
  have nch:p.1∉ch:=fun z=>(hch p.1 z).2.2.2 p hp rfl
  exact⟨keep p.1 p.2 ne nf nch e n,free p.1 p.2 nch e n,ne,nf,d⟩
theorem Inv.un{t':Nat}(I:Inv X pins σ H s)(u:Un X.fs [] H H' s.heap h')(hok:HOk X.prog X.w H' h'):Inv X pins σ H' { s with heap:=h',toks:=t' }:=by
 obtain⟨m,⟨o,es,ep,ho,r⟩,_⟩:=id I.loc
 obtain⟨sl,hL⟩:=u.any ho I.free (by simp)
 exact I.step (g':=s.gens) (d':=s.drawn) (ch:=[]) (fun _ z=>nomatch z) (fun b o _ hb _ e n=>u.keep b o e n hb (by simp)) (fun b o _ hb _ e n=>u.slot b o e n hb (by simp)) (fun b o _ e n=>u.free b o e n (by simp)) (fun b o _ e=>u.there b o e (by simp)) u.tups u.frzs u.tbls (fun m' hm=>by
  obtain⟨o',es',ep',ho',r'⟩:=hm
  rw[ho]at ho';cases ho'
  exact⟨_,es',ep',hL,r'⟩) hok I.bare
theorem Inv.call{g':Array GenState}{t':Nat}{d':Drawn}{ch:List Addr}(I:Inv X pins σ H s)(u:Un (frs X.stack) ch H H' s.heap h')(hok:HOk X.prog X.w H' h')(hg:AllBare g')
  (hch:∀b∈ch,(b∈X.ex∨X.s₀.heap.objs.size≤b)∧b≠X.env.locals∧(∀x c,X.env.cells.lookup x=some c->c≠b)∧∀p∈X.pn++pins,p.1≠b):
  Inv X pins σ H' { s with heap:=h',gens:=g',drawn:=d',toks:=t' }:=by
 obtain⟨m,⟨o,es,ep,ho,r⟩,_⟩:=id I.loc
 obtain⟨sl,hL⟩:=u.any ho I.free fun z=>(hch _ z).2.1 rfl
 exact I.step (ch:=ch) hch (fun b o hL hb hc e n=>u.keep b o e n (fun z=>(ao.mp (I.stkSub b z)).elim hL hb) hc) (fun b o _ _ hc e n=>u.any e n hc) (fun b o hc e n=>u.free b o e n hc) (fun b o hc e=>u.there b o e hc) u.tups u.frzs u.tbls (fun m' hm=>by
  obtain⟨o',es',ep',ho',r'⟩:=hm
  rw[ho]at ho';cases ho'
  exact⟨_,es',ep',hL,r'⟩) hok hg
theorem Inv.turned{t':Nat}{it:Addr}(I:Inv X pins σ H s)(k:∀b o,b≠it->s.heap.get? b=some o->h'.get? b=some o)(hn:H it=none)(hL:it≠X.env.locals)
  (h1:it∈X.ex∨X.s₀.heap.objs.size≤it) (h2:∀x c,X.env.cells.lookup x=some c->c≠it) (h3:∀p∈X.pn++pins,p.1≠it):Inv X pins σ H { s with heap:=h',toks:=t' }:=by
 have nit:∀b u,H b=some u->b≠it:=fun b u e z=>by rw[z,hn]at e;cases e
 refine I.step (g':=s.gens) (d':=s.drawn) (ch:=[it]) (fun b hb=>?_) (fun b o _ _ hc e _=>k b o (fun z=>hc (by simp[z])) e) (fun b o _ _ hc e _=>⟨o.slots,k b o (fun z=>hc (by simp[z])) e⟩) (fun _ _ _ _ n=>n)
  (fun b o hc e=>⟨o,k b o (fun z=>hc (by simp[z])) e⟩) (fun _ _ e=>e) (fun _ _ _ e=>e) (fun b ps e=>⟨#[],by rw[e];simp⟩) (fun m hm=>?_) (fun b u e=>?_) I.bare
 ·have e:b=it:=by simpa using hb
  subst e
  exact⟨h1,hL,h2,h3⟩
 ·obtain⟨o,es,ep,ho,r⟩:=hm
  exact⟨o,es,ep,k _ o (Ne.symm hL) ho,r⟩
 ·refine(I.hok b u e).stay (fun c v hc q=>k c v ?_ q) (fun _ q=>q) fun _ _ q=>q
  rcases hc with z | z
  ·rw[z];exact nit b u e
  ·exact nit c _ z
theorem Inv.tok(I:Inv X pins σ H s)(t:Nat):Inv X pins σ H { s with toks:=t }:=I.un (h':=s.heap) (t':=t) Un.refl I.hok
theorem Inv.kept{t':Nat}(I:Inv X pins σ H s)(k:∀b u,s.heap.get? b=some u->h'.get? b=some u):Inv X pins σ H { s with heap:=h',toks:=t' }:=I.un (Un.kept k) (I.hok.kept k)
theorem Inv.laid{a:Addr}{o:HO}{t':Nat}(I:Inv X pins σ H s)(k:∀b u,s.heap.get? b=some u->h'.get? b=some u)(hp:s.heap.objs.size≤a)(new:ObjOk X.prog X.w (upd H a o) h' a o):
  Inv X pins σ (upd H a o) { s with heap:=h',toks:=t' }:=I.un (Un.laid k hp (I.hok.fresh hp)) (I.hok.laid k hp new)
theorem Inv.write{x e:Addr}{o:HO}{t':Nat}(I:Inv X pins σ H s)(mu:Mut (H x))(he:e=x∨H e=some (.own x))(k:∀b u,b≠e->s.heap.get? b=some u->h'.get? b=some u)(heo:∃u,h'.get? e=some u)
  (new:ObjOk X.prog X.w (upd H x o) h' x o):Inv X pins σ (upd H x o) { s with heap:=h',toks:=t' }:=I.un (Un.write mu he k heo) (I.hok.write mu he k heo new)
theorem Inv.pins_of{pins':List (Addr×Obj)}(I:Inv X pins σ H s)(h:∀p∈pins',s.heap.get? p.1=some p.2∧H p.1=none∧p.1≠X.env.locals∧p.1∉X.fs∧∀v,p.2.data≠.cell v):Inv X pins' σ H s:=
 ⟨I.ok,I.os,I.bare,I.base,I.loc,I.cell,I.free,I.freeC,fun p hp=>(au.mp hp).elim (fun z=>I.pin p (b9 _ z)) (h p),I.hok,I.len⟩
theorem y0a{N:List Str}(hN:N.Nodup){i j:Nat}{x:Str}(a:N[i]? = some x)(b:N[j]? = some x):i=j:=by
 obtain⟨h1,e1⟩:=aO.mp a
 obtain⟨h2,e2⟩:=aO.mp b
 exact(List.getElem_inj hN).mp (e1.trans e2.symm)
theorem y1Q{M:Model}{A:Around}{E:Value->Shared->Prop}{i:Nat}{x:Str}{v:V}{u:Value}{Q:Unit->Shared->Prop}(I:Inv X pins σ H s)(hN:X.N.Nodup)(hi:X.N[i]? = some x)(hx:Loc X.env.scope x)(r:RelV v u)
  (h:∀s',Inv X pins (σ.set i (some v)) H s'->(∃a,Heap.SameBut a s.heap s'.heap∧(a=X.env.locals∨X.env.cells.lookup x=some a))->Q () s') (hf:X.fn x=true∨X.env.scope.names.lookup x=some .local:=by first | exact .inl rfl | exact .inr rfl | assumption):wpAny M A (storeName X.env x u) Q E s:=by
 obtain⟨m,hn,hl⟩:=id I.loc
 have hcls:(X.env.scope.kind == .class||(X.env.scope.kind == .module&&X.env.locals != X.env.globals))=false:=by rw[I.ok.kind];rfl
 have hiσ:i<σ.length:=by rw[I.len];exact(aO.mp hi).1
 have cne:=I.cne
 have tracked:∀{a:Addr} {h':Heap},(∃o,s.heap.get? a=some o∧H a=none)->Heap.SameBut a s.heap h'->HOk X.prog X.w H h':=fun {a h'} ha hs b ob e=>by
  obtain⟨_,_,hfree⟩:=ha
  refine(I.hok b ob e).stay (fun c w' hc q=>(hs.2 c ?_).trans q) (fun _ q=>q) fun _ _ q=>q
  rintro rfl
  rcases hc with rfl | hc
  ·rw[hfree]at e;cases e
  ·rw[hfree]at hc;cases hc
 rcases hx with hk | hk
 ·refine wpAny_storeName_local hk hn (fun h' hn' hs=>?_) hcls
  obtain⟨oL,_,_,hoL,_⟩:=id hn
  refine h _ ⟨I.ok,I.os,I.bare,⟨fun b o e n hb hx=>?_,fun b o e n hb hx=>?_,I.base.free,fun b o e hx=>?_,I.base.tups,I.base.frzs,I.base.tbls⟩,⟨_,hn',fun j y v' e1 e2 e3=>?_⟩,fun y c e=>?_,I.free,I.freeC,fun p hp=>?_,tracked ⟨oL,hoL,I.free⟩ hs,by simpa using I.len⟩ ⟨_,hs,.inl rfl⟩
  ·exact(hs.2 b (aH (aK (Heap.lt_size e) I.ok.above))).trans (I.base.keep b o e n hb hx)
  ·obtain⟨sl,e1⟩:=I.base.slot b o e n hb hx
   exact⟨sl,(hs.2 b (aH (aK (Heap.lt_size e) I.ok.above))).trans e1⟩
  ·obtain⟨o',e1⟩:=I.base.there b o e hx
   exact⟨o',(hs.2 b (aH (aK (Heap.lt_size e) I.ok.above))).trans e1⟩
  ·by_cases hj:j=i
   ·subst hj
    rw[hi]at e1;cases e1
    rw[cZ hiσ]at e2
    cases e2
    exact⟨u,r,.inl ⟨hk,by simp⟩⟩
   ·rw[aV (Ne.symm hj)]at e2
    obtain⟨u',r',q⟩:=hl j y v' e1 e2 e3
    refine⟨u',r',?_⟩
    rcases q with⟨k,e⟩ | ⟨k,c,e,z⟩
    ·refine .inl ⟨k,?_⟩
     have:y≠x:=fun e=>hj (y0a hN e1 (e ▸ hi))
     simp[this,e]
    ·exact .inr ⟨k,c,e,z.sameBut hs (cne y c e)⟩
  ·obtain⟨w',z⟩:=I.cell y c e
   exact⟨w',z.sameBut hs (cne y c e)⟩
  ·obtain⟨e,n,ne,nf,d⟩:=I.pin p hp
   exact⟨(hs.2 p.1 ne).trans e,n,ne,nf,d⟩
 ·have hfn:X.fn x=true:=by
   rcases hf with z | z
   ·exact z
   ·rw[z]at hk;cases hk
  obtain⟨c,hc⟩:=I.ok.has x (.inl hk)
  obtain⟨w',z⟩:=I.cell x c hc
  refine wpAny_storeName_cell I.ok.kind hk hc z (fun h' hc' hs=>?_)
  obtain⟨oc,hoc,hocd⟩:=id z
  refine h { s with heap:=h' } ⟨I.ok,I.os,I.bare,⟨fun b o e n hb hx=>?_,fun b o e n hb hx=>?_,I.base.free,fun b o e hx=>?_,I.base.tups,I.base.frzs,I.base.tbls⟩,⟨m,hn.sameBut hs (Ne.symm (cne x c hc)),fun j y v' e1 e2 e3=>?_⟩,fun y c' e=>?_,I.free,I.freeC,fun p hp=>?_,tracked ⟨oc,hoc,I.freeC x c hc⟩ hs,by simpa using I.len⟩ ⟨c,hs,.inr hc⟩
  ·exact(hs.2 b (aH (aK (Heap.lt_size e) (I.ok.cab x c hfn hc)))).trans (I.base.keep b o e n hb hx)
  ·obtain⟨sl,e1⟩:=I.base.slot b o e n hb hx
   exact⟨sl,(hs.2 b (aH (aK (Heap.lt_size e) (I.ok.cab x c hfn hc)))).trans e1⟩
  ·obtain⟨o',e1⟩:=I.base.there b o e hx
   exact⟨o',(hs.2 b (aH (aK (Heap.lt_size e) (I.ok.cab x c hfn hc)))).trans e1⟩
  ·by_cases hj:j=i
   ·subst hj
    rw[hi]at e1;cases e1
    rw[cZ hiσ]at e2
    cases e2
    exact⟨u,r,.inr ⟨.inl hk,c,hc,hc'⟩⟩
   ·rw[aV (Ne.symm hj)]at e2
    obtain⟨u',r',q⟩:=hl j y v' e1 e2 e3
    refine⟨u',r',?_⟩
    rcases q with q | ⟨k,c',e,z'⟩
    ·exact .inl q
    ·refine .inr ⟨k,c',e,z'.sameBut hs ?_⟩
     rintro rfl
     exact hj (y0a hN e1 (I.ok.inj _ _ _ e hc ▸ hi))
  ·by_cases hcc:c'=c
   ·subst hcc;exact⟨_,hc'⟩
   ·obtain⟨w2,z2⟩:=I.cell y c' e
    exact⟨w2,z2.sameBut hs hcc⟩
  ·obtain⟨e,n,ne,nf,d⟩:=I.pin p hp
   refine⟨(hs.2 p.1 ?_).trans e,n,ne,nf,d⟩
   intro q
   rw[q,hoc]at e
   have q':oc=p.2:=Option.some.inj e
   exact d w' (by rw[←q'];exact hocd)
theorem y0A{M:Model}{A:Around}{E:Value->Shared->Prop}{i:Nat}{x:Str}{v:V}{u:Value}{Q:Unit->Shared->Prop}(I:Inv X pins σ H s)(hN:X.N.Nodup)(hi:X.N[i]? = some x)(hx:Loc X.env.scope x)(r:RelV v u)
  (h:∀s',Inv X pins (σ.set i (some v)) H s'->Q () s') (hf:X.fn x=true∨X.env.scope.names.lookup x=some .local:=by first | exact .inl rfl | exact .inr rfl | assumption):wpAny M A (storeName X.env x u) Q E s:=
 y1Q I hN hi hx r (fun s' I' _=>h s' I') hf
theorem Inv.call'{s':Shared}{ch:List Addr}(I:Inv X pins σ H s)(ho:s'.os=s.os)(u:Un (frs X.stack) ch H H' s.heap s'.heap)(hok:HOk X.prog X.w H' s'.heap)(hg:AllBare s'.gens)
  (hch:∀b∈ch,(b∈X.ex∨X.s₀.heap.objs.size≤b)∧b≠X.env.locals∧(∀x c,X.env.cells.lookup x=some c->c≠b)∧∀p∈X.pn++pins,p.1≠b):Inv X pins σ H' s':=by
 obtain⟨h',g',d',t',o'⟩:=s'
 have e:o'=s.os:=ho
 subst e
 exact I.call (g':=g') (t':=t') (d':=d') u hok hg hch
end
abbrev XK:=Value->Option Addr->Hp->Prop
abbrev St:=List (Option V)
abbrev VK:=V->Hp->Prop
abbrev TE:=St->Hp->VK->Prop
abbrev TT:=St->Hp->(Bool->Hp->Prop)->Prop
abbrev TA:=St->Hp->(List V->Hp->Prop)->Prop
structure Ends where
 nx:St->Hp->Prop
 rt:VK
 bk:St->Hp->Prop:=fun _ _=>False
 ct:St->Hp->Prop:=fun _ _=>False
abbrev TS:=Ends->St->Hp->Prop
def EP(X:Cx)(pins:List (Addr×Obj))(σ:St)(Q:VK)(u:Value)(s':Shared):Prop:=∃v H',Inv X pins σ H' s'∧RelV v u∧Q v H'
def TP(X:Cx)(pins:List (Addr×Obj))(σ:St)(Q:Bool->Hp->Prop)(b:Bool)(s':Shared):Prop:=∃H',Inv X pins σ H' s'∧Q b H'
def AP(X:Cx)(pins:List (Addr×Obj))(σ:St)(Q:List V->Hp->Prop)(us:List Value)(s':Shared):Prop:=∃vs H',Inv X pins σ H' s'∧Vals vs us∧Q vs H'
def SP(X:Cx)(pins:List (Addr×Obj))(D:Ends)(f:Flow)(s':Shared):Prop:=
 match f with
 |.next=>∃σ' H',Inv X pins σ' H' s'∧D.nx σ' H'
 |.brk=>∃σ' H',Inv X pins σ' H' s'∧D.bk σ' H'
 |.cont=>∃σ' H',Inv X pins σ' H' s'∧D.ct σ' H'
 |.ret u=>∃v σ' H',Inv X pins σ' H' s'∧RelV v u∧D.rt v H'
def PE(X:Cx)(e:Expr)(t:TE):Prop:=
 ∀(pins:List (Addr×Obj)) (s:Shared) (σ:St) (H:Hp) (Q:VK),Inv X pins σ H s->t σ H Q->wpAny (model X.prog X.w) X.A (eval e X.env) (EP X pins σ Q) X.xe s
def PT(X:Cx)(e:Expr)(t:TT):Prop:=
 ∀(pins:List (Addr×Obj)) (s:Shared) (σ:St) (H:Hp) (Q:Bool->Hp->Prop),Inv X pins σ H s->t σ H Q->wpAny (model X.prog X.w) X.A (isTrue e X.env (eval e X.env)) (TP X pins σ Q) X.xe s
def PW(X:Cx)(e:Expr)(t:TT):Prop:=
 ∀(whole:Sem Value) (pins:List (Addr×Obj)) (s:Shared) (σ:St) (H:Hp) (Q:Bool->Hp->Prop),Inv X pins σ H s->t σ H Q->wpAny (model X.prog X.w) X.A (isTrue e X.env whole) (TP X pins σ Q) X.xe s
theorem PW.pt{X:Cx}{e:Expr}{t:TT}(h:PW X e t):PT X e t:=h _
def PA(X:Cx)(es:List Expr)(t:TA):Prop:=
 ∀(pos:Pos) (pins:List (Addr×Obj)) (s:Shared) (σ:St) (H:Hp) (Q:List V->Hp->Prop),Inv X pins σ H s->t σ H Q->wpAny (model X.prog X.w) X.A (spliced (fI pos (starEach es X.env))) (AP X pins σ Q) X.xe s
def PS(X:Cx)(st:Stmt)(t:TS):Prop:=
 ∀(pins:List (Addr×Obj)) (s:Shared) (σ:St) (H:Hp) (D:Ends),Inv X pins σ H s->t D σ H->wpAny (model X.prog X.w) X.A (exec st X.env) (SP X pins D) X.xe s
def PSs(X:Cx)(st:List Stmt)(t:TS):Prop:=
 ∀(pins:List (Addr×Obj)) (s:Shared) (σ:St) (H:Hp) (D:Ends),Inv X pins σ H s->t D σ H->wpAny (model X.prog X.w) X.A (execs st X.env) (SP X pins D) X.xe s
theorem thn{α:Type}{t:Sem α}{Q Q':α->Shared->Prop}{M:Model}{A:Around}{E:Value->Shared->Prop}{s:Shared}(h:wpAny M A t Q E s)(hQ:∀a s,Q a s->Q' a s):wpAny M A t Q' E s:=wpAny_mono h hQ fun _ _ x=>x
section
variable{X:Cx}
def y2I(i:Nat):TE:=fun σ H Q=>∃v,σ[i]? = some (some v)∧Q v H
def tC(v:V):TE:=fun _ H Q=>Q v H
theorem pe_var{i:Nat}{x:Str}{pos:Pos}(hN:X.N[i]? = some x)(hv:Vis X.env.scope x)(hd:(x==("__debug__" : Str))=false:=by decide)(hcd:(x==("__classdict__" : Str))=false:=by decide):PE X (.Name x pos) (y2I i):=by
 intro pins s σ H Q I h
 obtain⟨v,e,h⟩:=h
 obtain⟨m,hn,hl⟩:=I.loc
 obtain⟨u,r,l⟩:=hl i x v hN e hv
 have fin:EP X pins σ Q u s:=⟨v,H,I,r,h⟩
 rcases l with⟨hk,hm⟩ | ⟨hk,c,hc,hcell⟩
 ·exact wpAny_Name (wpAny_loadName_local I.ok.kind hk hn hm fin) hd
 ·rcases hk with hk | hk
  ·exact wpAny_Name (wpAny_loadName_cell I.ok.kind hk hc hcell fin) hd
  ·exact wpAny_Name (wpAny_loadName_free I.ok.kind hk hc hcell fin hcd) hd
theorem pe_int{i j pos}:PE X (.Constant (.int i) j pos) (tC (.int i)):=fun _ _ _ H _ I h=>wpAny_Constant_int ⟨.int i,H,I.tok _,⟨_,rfl⟩,h⟩
theorem pe_bl{b j pos}:PE X (.Constant (.bool b) j pos) (tC (.bl b)):=fun _ _ _ H _ I h=>Constant_bool ⟨.bl b,H,I,rfl,h⟩
theorem pe_str{x j pos}:PE X (.Constant (.str x) j pos) (tC (.str x)):=fun _ _ _ H _ I h=>Calls.Constant_str ⟨.str x,H,I.tok _,⟨_,rfl⟩,h⟩
def Gl(X:Cx)(x:Str):Prop:=X.env.kindOf x=some .globalImplicit
theorem z7D{E:Value->Shared->Prop}{pins:List (Addr×Obj)}{s:Shared}{σ:St}{H:Hp}{x:Str}{u:Value}{pos:Pos}{Q:Value->Shared->Prop}(I:Inv X pins σ H s)(hg:Gl X x)(hm:X.mg x=some u)(h:Q u s)
  (hd:(x==("__debug__" : Str))=false:=by decide):wpAny (model X.prog X.w) X.A (eval (.Name x pos) X.env) Q E s:=
 Calls.Name_function_global I.ok.kind hg (Calls.loadGlobal_global (by rw[I.ok.glob];exact I.mod.glob.keeps I.bk) hm h) hd
theorem z5D{E:Value->Shared->Prop}{pins:List (Addr×Obj)}{s:Shared}{σ:St}{H:Hp}{x:Str}{u:Value}{pos:Pos}{Q:Value->Shared->Prop}(I:Inv X pins σ H s)(hg:Gl X x)(hm:X.mg x=none)(hv:fL x=some u)(h:Q u s)
  (hn:x ≠ "__name__" := by decide) (hd:(x==("__debug__" : Str))=false:=by decide):wpAny (model X.prog X.w) X.A (eval (.Name x pos) X.env) Q E s:=by
 obtain⟨mb,h1,h2⟩:=I.mod.blt
 exact Calls.Name_function_global I.ok.kind hg (Calls.loadGlobal_builtin (by rw[I.ok.glob];exact I.mod.glob.keeps I.bk) hm (by rw[I.ok.blt];exact h1.keeps I.bk) ((h2 x hn).trans hv) h) hd
theorem y8V{x:Str}{v:V}{u:Value}{pos:Pos}(hg:Gl X x)(hm:X.mg x=none)(hv:fL x=some u)(r:RelV v u)(hn:x ≠ "__name__" := by decide)(hd:(x==("__debug__" : Str))=false:=by decide):PE X (.Name x pos) (tC v):=
 fun _ _ _ H _ I h=>z5D I hg hm hv ⟨v,H,I,r,h⟩ hn hd
variable{a b:Expr}{ta tb:TE}{pos:Pos}
def PC(X:Cx)(op:CmpOp)(a b:Expr)(t:TE):Prop:=
 ∀(pins:List (Addr×Obj)) (s:Shared) (σ:St) (H:Hp) (Q:VK),Inv X pins σ H s->t σ H Q →
  wpAny (model X.prog X.w) X.A (eval a X.env) (fun v s₁=>wpAny (model X.prog X.w) X.A (eval b X.env) (fun u s₂=>wpAny (model X.prog X.w) X.A (compareOp op v u) (EP X pins σ Q) X.xe s₂) X.xe s₁) X.xe s
theorem x2o(b:Expr){op:CmpOp}(h:op≠.In)(h2:op≠.NotIn):fH op b=false:=by
 have e1:(op==CmpOp.In)=false:=by cases op <;> first | rfl | exact absurd rfl h
 have e2:(op==CmpOp.NotIn)=false:=by cases op <;> first | rfl | exact absurd rfl h2
 cases b <;> simp[fH,e1,e2]
def tB(t:TE):TT:=fun σ H Q=>t σ H fun x H1=>∃c,x = .bl c∧Q c H1
theorem x5t{op:CmpOp}{t:TE}(h:PC X op a b t)(h1:fH op b=false:=by first | exact x2o _ (by decide) (by decide) | rfl):PT X (.Compare a [op] [b] pos) (tB t):=by
 intro pins s σ H Q I hw
 refine wpAny_isTrue_Compare1 (thn (h pins s σ H _ I hw) fun v s1 h1=>thn h1 fun u s2 h2=>thn h2 fun c s3 ⟨x,H1,I1,r1,q1⟩=>?_) h1
 obtain⟨d,rfl,q⟩:=q1
 cases r1
 exact wpAny_truthy_bool ⟨H1,I1,q⟩
variable{tA tB':TT}{rest:List Expr}
def tAnd(t u:TT):TT:=fun σ H Q=>t σ H fun c H1=>if c=true then u σ H1 Q else Q false H1
def tOr(t u:TT):TT:=fun σ H Q=>t σ H fun c H1=>if c=true then Q true H1 else u σ H1 Q
def tNot(t:TT):TT:=fun σ H Q=>t σ H fun c H1=>Q (!c) H1
theorem pw_and1(ha:PT X a tA):PW X (.BoolOp .And [a] pos) tA:=by
 intro wh pins s σ H Q I h
 refine isTrue_and (thn (ha pins s σ H Q I h) fun c s1 e=>?_)
 cases c with
 |true=>exact isTrue_and_nil e
 |false=>exact e
theorem pw_or1(ha:PT X a tA):PW X (.BoolOp .Or [a] pos) tA:=by
 intro wh pins s σ H Q I h
 refine isTrue_or (thn (ha pins s σ H Q I h) fun c s1 e=>?_)
 cases c with
 |false=>exact isTrue_or_nil e
 |true=>exact e
theorem pw_and(ha:PT X a tA)(hb:PW X (.BoolOp .And (b::rest) pos) tB'):PW X (.BoolOp .And (a::b::rest) pos) (tAnd tA tB'):=by
 intro wh pins s σ H Q I h
 refine isTrue_and (thn (ha pins s σ H _ I h) fun c s1 ⟨H1,I1,q1⟩=>?_)
 cases c with
 |true=>exact hb wh pins s1 σ H1 Q I1 q1
 |false=>exact⟨H1,I1,q1⟩
theorem pw_or(ha:PT X a tA)(hb:PW X (.BoolOp .Or (b::rest) pos) tB'):PW X (.BoolOp .Or (a::b::rest) pos) (tOr tA tB'):=by
 intro wh pins s σ H Q I h
 refine isTrue_or (thn (ha pins s σ H _ I h) fun c s1 ⟨H1,I1,q1⟩=>?_)
 cases c with
 |true=>exact⟨H1,I1,q1⟩
 |false=>exact hb wh pins s1 σ H1 Q I1 q1
theorem pt_not(ha:PT X a tA):PT X (.UnaryOp .Not a pos) (tNot tA):=by
 intro pins s σ H Q I h
 exact isTrue_not (ha pins s σ H (fun c H1=>Q (!c) H1) I h)
def tAndV(ta tb:TE):TE:=fun σ H Q=>ta σ H fun x H1=>∃c,x = .bl c∧if c=true then tb σ H1 Q else Q (.bl false) H1
def tNotV(ta:TE):TE:=fun σ H Q=>ta σ H fun x H1=>∃c,x = .bl c∧Q (.bl (!c)) H1
theorem pe_one{op}{t:TE}(h:PE X a t):PE X (.BoolOp op [a] pos) t:=fun pins s σ H Q I hw=>BoolOp_one (h pins s σ H Q I hw)
theorem pe_and(ha:PE X a ta)(hb:PE X (.BoolOp .And (b::rest) pos) tb):PE X (.BoolOp .And (a::b::rest) pos) (tAndV ta tb):=by
 intro pins s σ H Q I h
 refine BoolOp_and (thn (ha pins s σ H _ I h) fun v s1 ⟨x,H1,I1,r1,q1⟩=>?_)
 obtain⟨c,rfl,q1⟩:=q1
 cases r1
 refine wpAny_truthy_bool ?_
 cases c with
 |true=>exact hb pins s1 σ H1 Q I1 q1
 |false=>exact⟨.bl false,H1,I1,rfl,q1⟩
theorem pe_not(ha:PE X a ta):PE X (.UnaryOp .Not a pos) (tNotV ta):=by
 intro pins s σ H Q I h
 refine UnaryOp_ (thn (ha pins s σ H _ I h) fun v s1 ⟨x,H1,I1,r1,q1⟩=>?_)
 obtain⟨c,rfl,q1⟩:=q1
 cases r1
 exact not_of (wpAny_truthy_bool ⟨.bl (!c),H1,I1,rfl,q1⟩)
def tIf(t:TT)(ta tb:TE):TE:=fun σ H Q=>t σ H fun c H1=>if c=true then ta σ H1 Q else tb σ H1 Q
theorem x3T{c:Expr}(hc:PT X c tA)(ha:PE X a ta)(hb:PE X b tb):PE X (.IfExp c a b pos) (tIf tA ta tb):=by
 intro pins s σ H Q I h
 refine wpAny_IfExp (thn (hc pins s σ H _ I h) fun d s1 ⟨H1,I1,q1⟩=>?_)
 cases d with
 |true=>exact ha pins s1 σ H1 Q I1 q1
 |false=>exact hb pins s1 σ H1 Q I1 q1
end
def SqL(K:aa)(H:Hp)(a:Addr)(xs:List V):Prop:=
 Rd H a (.lst xs) ∨
  ∃(o:Obj) (its:Array Value) (n:Nat),K.lookup a=some o∧o.cls = .type "list" ∧ o.dict=none∧o.data = .seq its n∧its.size≤sizeLine∧Vals xs its.toList
def SqT(K:aa)(H:Hp)(a:Addr)(xs:List V):Prop:=
 Rd H a (.tup xs) ∨
  ∃(o:Obj) (its:Array Value) (n:Nat),K.lookup a=some o∧(o.cls = .type "tuple" ∧ o.dict=none)∧o.data = .seq its n∧its.size≤sizeLine∧Vals xs its.toList
def absV:Value->Option V
 |.none=>some .non
 |.bool b=>some (.bl b)
 |.int i _=>some (.int i)
 |.str x _=>some (.str x)
 |.bytes b _=>some (.byt b)
 |.float b _=>some (.flt b)
 |.ref a=>some (.ref a)
 |.type n=>some (.ty n)
 |_=>none
theorem RelV.abs{x:V}{u:Value}(r:RelV x u):absV u=some x:=by
 cases x with
 |non=>cases r;rfl
 |bl _=>cases r;rfl
 |int _=>obtain⟨t,rfl⟩:=r;rfl
 |str _=>obtain⟨t,rfl⟩:=r;rfl
 |byt _=>obtain⟨t,rfl⟩:=r;rfl
 |flt _=>obtain⟨t,rfl⟩:=r;rfl
 |ref _=>cases r;rfl
 |ty _=>cases r;rfl
theorem RelV.inj{x y:V}{u:Value}(r:RelV x u)(q:RelV y u):x=y:=Option.some.inj (r.abs.symm.trans q.abs)
theorem Vals.inj:∀{xs ys:List V} {us:List Value},Vals xs us->Vals ys us->xs=ys
 |_,_,_,.nil,.nil=>rfl
 |_,_,_,.cons r t,.cons r' t'=>by rw[r.inj r',Vals.inj t t']
section
variable{X:Cx}{pins:List (Addr×Obj)}{σ:St}{H:Hp}{s:Shared}{a:Addr}{xs ys:List V}
theorem SqL.of{K:aa}(h:H a=some (.lst xs)):SqL K H a xs:=.inl (.inl h)
theorem SqT.of{K:aa}(h:H a=some (.tup xs)):SqT K H a xs:=.inl (.inl h)
theorem Inv.list(I:Inv X pins σ H s)(h:SqL X.K H a xs):∃its:List Value,Vals xs its∧PlainL s.heap a its.toArray∧xs.length≤sizeLine:=by
 rcases h with h | ⟨o,its,n,hk,hc,hd,hs,hz,r⟩
 ·obtain⟨z,its,n,r,e⟩:=h.ok I.hok
  exact⟨its,r,⟨_,n,e,rfl,rfl,rfl⟩,z⟩
 ·refine⟨its.toList,r,⟨o,n,I.kIn a o hk,hc,hd,by simpa using hs⟩,?_⟩
  have e:=r.length
  simp only[bE]at e
  omega
theorem Inv.tuple(I:Inv X pins σ H s)(h:SqT X.K H a xs):∃its:List Value,Vals xs its∧IsTup s.heap a its.toArray∧xs.length≤sizeLine:=by
 rcases h with h | ⟨o,its,n,hk,hc,hs,hz,r⟩
 ·obtain⟨z,its,r,p⟩:=h.ok I.hok
  exact⟨its,r,p.is,z⟩
 ·refine⟨its.toList,r,⟨o,I.kIn a o hk,hc.1,n,by simpa using hs⟩,?_⟩
  have e:=r.length
  simp only[bE]at e
  omega
theorem Inv.list_inj(I:Inv X pins σ H s)(h:SqL X.K H a xs)(h':SqL X.K H a ys):xs=ys:=by
 obtain⟨its,r,⟨o,n,e,_,_,d⟩,_⟩:=I.list h
 obtain⟨its',r',⟨o',n',e',_,_,d'⟩,_⟩:=I.list h'
 rw[e]at e';cases e'
 rw[d]at d'
 injection d' with d1 _
 have:its=its':=by simpa using congrArg Array.toList d1
 subst this
 exact r.inj r'
theorem Inv.tuple_inj(I:Inv X pins σ H s)(h:SqT X.K H a xs)(h':SqT X.K H a ys):xs=ys:=by
 obtain⟨its,r,⟨o,e,_,n,d⟩,_⟩:=I.tuple h
 obtain⟨its',r',⟨o',e',_,n',d'⟩,_⟩:=I.tuple h'
 rw[e]at e';cases e'
 rw[d]at d'
 injection d' with d1 _
 have:its=its':=by simpa using congrArg Array.toList d1
 subst this
 exact r.inj r'
end
abbrev Cx.wish(X:Cx)(E:Value->Shared->Prop):Cx:={ X with xe:=E }
abbrev Cx.nox(X:Cx):Cx:=X.wish fun _ _=>False
theorem Cx.Ok.wish{X:Cx}(ok:X.Ok)(E:Value->Shared->Prop):(X.wish E).Ok:=
 ⟨ok.mod,ok.kind,ok.glob,ok.blt,ok.above,ok.inj,ok.has,ok.cab,ok.hd,ok.frames,ok.stk,ok.exf,ok.bs,ok.bsz,ok.noex,ok.exfs,ok.funs,ok.frf⟩
theorem Cx.Ok.unwish{X:Cx}{E:Value->Shared->Prop}(ok:(X.wish E).Ok):X.Ok:=
 ⟨ok.mod,ok.kind,ok.glob,ok.blt,ok.above,ok.inj,ok.has,ok.cab,ok.hd,ok.frames,ok.stk,ok.exf,ok.bs,ok.bsz,ok.noex,ok.exfs,ok.funs,ok.frf⟩
section
variable{X:Cx}{pins:List (Addr×Obj)}{σ:St}{H:Hp}{s:Shared}{E:Value->Shared->Prop}
theorem Inv.wish(I:Inv X pins σ H s)(E:Value->Shared->Prop):Inv (X.wish E) pins σ H s:=⟨I.ok.wish E,I.os,I.bare,I.base,I.loc,I.cell,I.free,I.freeC,I.pin,I.hok,I.len⟩
theorem Inv.unwish(I:Inv (X.wish E) pins σ H s):Inv X pins σ H s:=⟨I.ok.unwish,I.os,I.bare,I.base,I.loc,I.cell,I.free,I.freeC,I.pin,I.hok,I.len⟩
theorem SP.unwish{D:Ends}{f:Flow}{s':Shared}(h:SP (X.wish E) pins D f s'):SP X pins D f s':=by
 cases f with
 |next=>obtain⟨σ',H',I,q⟩:=h;exact⟨σ',H',I.unwish,q⟩
 |brk=>obtain⟨σ',H',I,q⟩:=h;exact⟨σ',H',I.unwish,q⟩
 |cont=>obtain⟨σ',H',I,q⟩:=h;exact⟨σ',H',I.unwish,q⟩
 |ret u=>obtain⟨v,σ',H',I,r,q⟩:=h;exact⟨v,σ',H',I.unwish,r,q⟩
theorem PSs.nox{st:List Stmt}{t:TS}(h:PSs X.nox st t):PSs X st t:=fun pins s σ H D I hw=>
 wpAny_mono (h pins s σ H D (I.wish _) hw) (fun _ _ q=>q.unwish) fun _ _ z=>False.elim z
end
section
variable{X:Cx}{st:Stmt}{rest:List Stmt}{t u:TS}{e:Expr}{te:TE}{pos:Pos}
def tNext:TS:=fun D σ H=>D.nx σ H
def tSeq(t u:TS):TS:=fun D σ H=>t { D with nx:=u D } σ H
theorem pss_nil:PSs X [] tNext:=fun _ _ σ H _ I h=>wpAny_execs_nil ⟨σ,H,I,h⟩
theorem x2l(h1:PS X st t)(h2:PSs X rest u):PSs X (st::rest) (tSeq t u):=by
 intro pins s σ H D I h
 refine wpAny_execs_cons (thn (h1 pins s σ H { D with nx:=u D } I h) fun f s1 q=>?_)
 cases f with
 |next=>
  obtain⟨σ',H',I',q⟩:=q
  exact h2 pins s1 σ' H' D I' q
 |ret v=>exact q
 |brk=>exact q
 |cont=>exact q
theorem pss_one(h1:PS X st t):PSs X [st] t:=by
 intro pins s σ H D I h
 refine wpAny_execs_cons (thn (h1 pins s σ H D I h) fun f s1 q=>?_)
 cases f with
 |next=>exact wpAny_execs_nil q
 |ret v=>exact q
 |brk=>exact q
 |cont=>exact q
theorem Inv.quiet{pins:List (Addr×Obj)}{σ:St}{H:Hp}{s:Shared}(I:Inv X pins σ H s):interactive X.env=false:=by simp[interactive,I.ok.kind]
def tDrop(te:TE):TS:=fun D σ H=>te σ H fun _ H1=>D.nx σ H1
theorem z7K(he:PE X e te)(hs:swapsWith e none pos.line X.env=pure false:=by rfl):PS X (.Expr e pos) (tDrop te):=by
 intro pins s σ H D I h
 exact wpAny_Expr_any (thn (he pins s σ H _ I h) fun v s1 ⟨x,H1,I1,r1,q1⟩=>⟨σ,H1,I1,q1⟩) I.quiet hs
def tRet(te:TE):TS:=fun D σ H=>te σ H D.rt
theorem z8j(he:PE X e te):PS X (.Return (some e) pos) (tRet te):=by
 intro pins s σ H D I h
 exact wpAny_Return_some (thn (he pins s σ H _ I h) fun v s1 ⟨x,H1,I1,r1,q1⟩=>⟨x,σ,H1,I1,r1,q1⟩)
def tIfS(c:TT)(t u:TS):TS:=fun D σ H=>c σ H fun b H1=>if b=true then t D σ H1 else u D σ H1
theorem ps_if{c:Expr}{a b:List Stmt}{tc:TT}(hc:PT X c tc)(ha:PSs X a t)(hb:PSs X b u):PS X (.If c a b pos) (tIfS tc t u):=by
 intro pins s σ H D I h
 refine wpAny_If (thn (hc pins s σ H _ I h) fun d s1 ⟨H1,I1,q1⟩=>?_)
 cases d with
 |true=>exact ha pins s1 σ H1 D I1 q1
 |false=>exact hb pins s1 σ H1 D I1 q1
end
abbrev TG:=V->St->Hp->(St->Hp->Prop)->Prop
abbrev TGs:=List V->St->Hp->(St->Hp->Prop)->Prop
def PG(X:Cx)(target:Expr)(t:TG):Prop:=
 ∀(pins:List (Addr×Obj)) (s:Shared) (σ:St) (H:Hp) (v:V) (u:Value) (Q:St->Hp->Prop),Inv X pins σ H s->RelV v u->t v σ H Q →
  wpAny (model X.prog X.w) X.A (fP target X.env u) (fun _ s'=>∃σ' H',Inv X pins σ' H' s'∧Q σ' H') X.xe s
def PGs(X:Cx)(ts:List Expr)(t:TGs):Prop:=
 ∀(pins:List (Addr×Obj)) (s:Shared) (σ:St) (H:Hp) (vs:List V) (us:List Value) (Q:St->Hp->Prop),Inv X pins σ H s->Vals vs us->t vs σ H Q →
  wpAny (model X.prog X.w) X.A (assignInOrder ((fG ts X.env).map (·.2)) us) (fun _ s'=>∃σ' H',Inv X pins σ' H' s'∧Q σ' H') X.xe s
abbrev TSet:=V->V->V->Hp->(Hp->Prop)->Prop
def PSet(X:Cx)(t:TSet):Prop:=
 ∀(pins:List (Addr×Obj)) (s:Shared) (σ:St) (H:Hp) (o i v:V) (ov iv u:Value) (Q:Hp->Prop),Inv X pins σ H s->RelV o ov->RelV i iv->RelV v u->t o i v H Q →
  wpAny (model X.prog X.w) X.A (setItem ov iv u) (fun _ s'=>∃H',Inv X pins σ H' s'∧Q H') X.xe s
section
variable{X:Cx}{pos:Pos}
def z2Z(i:Nat):TG:=fun v σ H Q=>Q (σ.set i (some v)) H
theorem z0l{i:Nat}{x:Str}(hN:X.N.Nodup)(hi:X.N[i]? = some x)(hx:Loc X.env.scope x)(hf:X.fn x=true∨X.env.scope.names.lookup x=some .local:=by first | exact .inl rfl | exact .inr rfl | assumption):PG X (.Name x pos) (z2Z i):=by
 intro pins s σ H v u Q I r h
 exact wpAny_assign_Name (y0A I hN hi hx r (fun s' I'=>⟨_,H,I',h⟩) hf)
def gNil:TGs:=fun vs σ H Q=>vs=[]∧Q σ H
def x0J(t:TG)(u:TGs):TGs:=fun vs σ H Q=>∃v r,vs=v::r∧t v σ H fun σ' H'=>u r σ' H' Q
theorem y8m:PGs X [] gNil:=by
 intro pins s σ H vs us Q I r h
 obtain⟨e,h⟩:=h
 subst e
 cases r
 exact assignInOrder_nil ⟨σ,H,I,h⟩
theorem z6X{e:Expr}{es:List Expr}{t:TG}{u:TGs}(h1:PG X e t)(h2:PGs X es u)
  (hs:(fG (e::es) X.env).map (·.2)=fP e X.env::(fG es X.env).map (·.2):=by rfl):PGs X (e::es) (x0J t u):=by
 intro pins s σ H vs us Q I r h
 obtain⟨v,vr,e1,h⟩:=h
 subst e1
 cases r with
 |cons r rr=>
  rw[hs]
  refine assignInOrder_cons (thn (h1 pins s σ H _ _ _ I r h) fun _ s1 ⟨σ1,H1,I1,q1⟩=>?_)
  exact h2 pins s1 σ1 H1 _ _ Q I1 rr q1
def gTup(K:aa)(n:Nat)(t:TGs):TG:=fun v σ H Q=>∃a xs,v = .ref a∧SqT K H a xs∧xs.length=n∧t xs σ H Q
theorem x4G{es:List Expr}{k:Nat}{t:TGs}{n:Nat}(hc:X.calm=true)(h:PGs X es t)
  (hn:(fG es X.env).length=n:=by rfl) (hst:(fG es X.env).findIdx? (·.1)=none:=by rfl):PG X (.Tuple es k pos) (gTup X.K n t):=by
 intro pins s σ H v u Q I r hw
 obtain⟨a,xs,e1,hq,hl,hw⟩:=hw
 subst e1
 cases r
 obtain⟨its,rv,ht,hz⟩:=I.tuple hq
 refine assign_Tuple_tuple (I.ok.hd hc) ht (by simp[hn,←hl,rv.length]) hst fun h' hx=>?_
 have I1:Inv X pins σ H { s with heap:=h' }:=I.kept (t':=s.toks) fun b o e=>hx b o (aH (Heap.lt_size e)) e
 exact h pins _ σ H xs _ Q I1 (by simpa using rv) hw
def gSub(to ti:TE)(t:TSet):TG:=fun v σ H Q=>to σ H fun o H1=>ti σ H1 fun i H2=>t o i v H2 fun H3=>Q σ H3
theorem x4b{o i:Expr}{to ti:TE}{t:TSet}(ho:PE X o to)(hi:PE X i ti)(hs:PSet X t)
  (ha:∀v,fP (.Subscript o i pos) X.env v=(do
   let ov ←holding [v] (eval o X.env)
   let iv ←holding [v,ov] (eval i X.env)
   standAt pos
   holding [v,ov,iv] (setItem ov iv v)
   release [v,ov,iv] []):=by intro _;rfl):PG X (.Subscript o i pos) (gSub to ti t):=by
 intro pins s σ H v u Q I r h
 rw[ha]
 refine wpAny_bind (wpAny_holding (thn (ho pins s σ H _ I h) fun ov s1 ⟨x,H1,I1,r1,q1⟩=>?_))
 refine wpAny_bind (wpAny_holding (thn (hi pins s1 σ H1 _ I1 q1) fun iv s2 ⟨y,H2,I2,r2,q2⟩=>?_))
 refine wpAny_bind (wpAny_standAt (wpAny_bind (wpAny_holding (thn (hs pins s2 σ H2 x y v ov iv u _ I2 r1 r2 r q2) fun _ s3 ⟨H3,I3,q3⟩=>?_))))
 exact wpAny_release ⟨σ,H3,I3,q3⟩
def tAsg(te:TE)(g:TG):TS:=fun D σ H=>te σ H fun x H1=>g x σ H1 D.nx
theorem x5l{tg e:Expr}{te:TE}{g:TG}(he:PE X e te)(hg:PG X tg g)(hs:swapsWithSole [tg] e pos.line X.env=pure false:=by rfl)(hw:swappedStores [tg] e X.env=pure none:=by rfl)
  (h1:(fG [tg] X.env).map (·.2)=[fP tg X.env]:=by rfl):PS X (.Assign [tg] e pos) (tAsg te g):=by
 intro pins s σ H D I h
 refine wpAny_Assign_stores (thn (he pins s σ H _ I h) fun v s1 ⟨x,H1,I1,r1,q1⟩=>?_) hs hw
 rw[h1]
 exact thn (hg pins s1 σ H1 x v _ I1 r1 q1) fun _ s2 q=>q
theorem ps_set{i:Nat}{x:Str}{e:Expr}{te:TE}{pos':Pos}(hN:X.N.Nodup)(hi:X.N[i]? = some x)(hx:Loc X.env.scope x)(he:PE X e te)(hs:swapsWith e (some (.Name x pos')) pos.line X.env=pure false:=by rfl)(hf:X.fn x=true∨X.env.scope.names.lookup x=some .local:=by first | exact .inl rfl | exact .inr rfl | assumption):
  PS X (.Assign [.Name x pos'] e pos) (tAsg te (z2Z i)):=by
 intro pins s σ H D I h
 refine wpAny_Assign_Name (thn (he pins s σ H _ I h) fun v s1 ⟨y,H1,I1,r1,q1⟩=>?_) hs
 exact y0A I1 hN hi hx r1 (fun s2 I2=>⟨_,H1,I2,q1⟩) hf
end
section
variable{X:Cx}{pos:Pos}
def tWhile(c:TT)(tb:TS):TS:=fun D σ H=>∃W:Nat->St->Hp->Prop,(∃m,W m σ H)∧∀m σ H,W m σ H →
 c σ H fun b H1=>if b=true then ∃N:St->Hp->Prop,(∀σ' H',N σ' H'->∃m',m'<m∧W m' σ' H')∧tb { D with nx:=N,ct:=N,bk:=D.nx } σ H1 else D.nx σ H1
theorem x2A{c:Expr}{body:List Stmt}{tc:TT}{tb:TS}(hp:PassesOwn (model X.prog X.w) X.A X.env X.xe)(hc:PT X c tc)(hb:PSs X body tb):PS X (.While c body [] pos) (tWhile tc tb):=by
 intro pins s σ H D I h
 obtain⟨W,⟨m0,w0⟩,turn⟩:=h
 refine wpAny_While (codeAny_whileLoop (fun n s'=>∃σ' H',Inv X pins σ' H' s'∧W n σ' H') ?_ m0 ⟨σ,H,I,w0⟩)
 rintro n s1 ⟨σ1,H1,I1,w1⟩
 refine wpAny_passesOwn hp (thn (hc pins s1 σ1 H1 _ I1 (turn n σ1 H1 w1)) fun b s2 ⟨H2,I2,q2⟩=>?_)
 cases b with
 |true=>
  obtain⟨N,hN,q2⟩:=q2
  rw[if_pos rfl]
  refine wpAny_passesOwn hp (thn (hb pins s2 σ1 H2 _ I2 q2) fun f s3 q3=>?_)
  cases f with
  |next=>
   obtain⟨σ3,H3,I3,n3⟩:=q3
   obtain⟨m',hm,w3⟩:=hN σ3 H3 n3
   exact⟨m',hm,σ3,H3,I3,w3⟩
  |cont=>
   obtain⟨σ3,H3,I3,n3⟩:=q3
   obtain⟨m',hm,w3⟩:=hN σ3 H3 n3
   exact⟨m',hm,σ3,H3,I3,w3⟩
  |brk=>exact q3
  |ret v=>exact q3
 |false=>
  rw[if_neg ar]
  exact wpAny_execs_nil ⟨σ1,H2,I2,q2⟩
end
structure It where
 go:Nat->Hp->Prop
 yld:Nat->Hp->V->Hp->Prop
 stop:Nat->Hp->Prop
def y2A(X:Cx)(pins:List (Addr×Obj))(H:Hp)(b:Addr):Prop:=
 H b=none∧b≠X.env.locals∧b∉X.fs∧(b∈X.ex∨X.s₀.heap.objs.size≤b)∧(∀x c,X.env.cells.lookup x=some c->c≠b)∧∀p∈X.pn++pins,p.1≠b
theorem Inv.fpOk{X:Cx}{pins:List (Addr×Obj)}{σ:St}{H H':Hp}{s:Shared}{b:Addr}(I:Inv X pins σ H s)(hb:s.heap.objs.size≤b)(hn:H' b=none):y2A X pins H' b:=by
 refine⟨hn,cL (aK I.lt hb),I.nofs hb,.inr (aG I.sz hb),fun x c e z=>?_,fun p hp z=>?_⟩
 ·obtain⟨v,q⟩:=I.cell x c e
  exact absurd (aK q.lt (by rw[z];exact hb)) (bS _)
 ·exact absurd (aK (Heap.lt_size (I.pin p hp).1) (by rw[z];exact hb)) (bS _)
structure Turn(P:dw)(w:fE)(K:aa)(tg:Expr)(J:It)(fp:List Addr)(it:Addr)(tn:Nat->Heap->Prop):Prop where
 mem:it∈fp
 obj:∀i h,tn i h->∀b∈fp,∃o,h.get? b=some o∧∀v,o.data≠.cell v
 keep:∀i h h',tn i h->(∀b∈fp,∀o,h.get? b=some o->h'.get? b=some o)->tn i h'
 item:∀(X:Cx),X.prog=P->X.w=w->X.K=K->X.calm=true->∀(i:Nat) (pins:List (Addr×Obj)) (s:Shared) (σ:St) (H:Hp) (E:Value->Shared->Prop),Inv X pins σ H s->(∀b∈fp,y2A X pins H b)->tn i s.heap->J.go i H →
  wpAny (model P w) X.A (pyNext (.ref it)) (fun r s1=>∃u,r=some u ∧
   wpAny (model P w) X.A (letOwnedTupleGo tg (.ref it) u) (fun _ s2=>∃x H',Inv X pins σ H' s2∧RelV x u∧J.yld i H x H'∧tn (i+1) s2.heap∧∀b∈fp,H' b=none) E s1) E s
 done:∀(X:Cx),X.prog=P->X.w=w->X.K=K->X.calm=true->∀(i:Nat) (pins:List (Addr×Obj)) (s:Shared) (σ:St) (H:Hp) (E:Value->Shared->Prop),Inv X pins σ H s->(∀b∈fp,y2A X pins H b)->tn i s.heap->J.stop i H →
  wpAny (model P w) X.A (pyNext (.ref it)) (fun r s1=>r=none∧Inv X pins σ H s1) E s
 self:∀(A:Around) (i:Nat) (s:Shared) (Q:Value->Shared->Prop) (E:Value->Shared->Prop),tn i s.heap->Q (.ref it) s->wpAny (model P w) A (pyIter (.ref it)) Q E s
abbrev TI:=St->Hp->(It->Hp->Prop)->Prop
def PIE(X:Cx)(pins:List (Addr×Obj))(σ:St)(tg:Expr)(R:It->Hp->Prop)(itv:Value)(s2:Shared):Prop:=
 ∃(it:Addr) (fp:List Addr) (tn:Nat->Heap->Prop) (J:It) (H':Hp),itv = .ref it∧Inv X pins σ H' s2∧Turn X.prog X.w X.K tg J fp it tn∧tn 0 s2.heap∧(∀b∈fp,y2A X pins H' b)∧R J H'
def PI(X:Cx)(tg iter:Expr)(wi:TI):Prop:=
 ∀(pins:List (Addr×Obj)) (s:Shared) (σ:St) (H:Hp) (R:It->Hp->Prop),Inv X pins σ H s->wi σ H R →
  wpAny (model X.prog X.w) X.A (eval iter X.env) (fun v s1=>wpAny (model X.prog X.w) X.A (pyIter v) (PIE X pins σ tg R) X.xe s1) X.xe s
theorem x2O{M:Model}{A:Around}{E:Value->Shared->Prop}{s:Shared}{tg:Expr}{it:Addr}{u:Value}{o:Obj}{n:String}{vs:Array Value}{Q:Unit->Shared->Prop}(ho:s.heap.get? it=some o)(hc:o.cls = .type n)(hd:o.data = .fields vs)
  (hn:["enumerate", "zip", "dict_itemiterator", "dict_reverseitemiterator", "odict_iterator", "itertools.zip_longest", "itertools.pairwise"].contains n=false) (hQ:Q () s):wpAny M A (letOwnedTupleGo tg (.ref it) u) Q E s:=by
 unfold letOwnedTupleGo
 cases tg <;> first
  |exact wpAny_pure hQ
  | (cases u <;> first
    |exact wpAny_pure hQ
    | (refine wpAny_bind (wpAny_load ho ?_)
       rw[hc,hd]
       show wpAny M A (if(["enumerate", "zip", "dict_itemiterator", "dict_reverseitemiterator", "odict_iterator", "itertools.zip_longest", "itertools.pairwise"].contains n&&vs[0]? == some (rawInt _))=true then _ else _) Q E s
       rw[if_neg (by intro h;rw[hn,eD]at h;cases h)]
       exact wpAny_pure hQ))
def Itl(K:aa)(a:Addr):It:=
 ⟨fun i H=>∃xs x,SqL K H a xs∧xs[i]? = some x,fun i H x H'=>H'=H∧∀xs,SqL K H a xs->xs[i]? = some x,fun i H=>∃xs,SqL K H a xs∧xs.length≤i⟩
def Itt(K:aa)(a:Addr):It:=
 ⟨fun i H=>∃xs x,SqT K H a xs∧xs[i]? = some x,fun i H x H'=>H'=H∧∀xs,SqT K H a xs->xs[i]? = some x,fun i H=>∃xs,SqT K H a xs∧xs.length≤i⟩
def Itr(lo:Int)(n:Nat):It:=⟨fun i _=>i<n,fun i H x H'=>H'=H∧x = .int (lo+i),fun i _=>n≤i⟩
theorem x0K{P:dw}{w:fE}{K:aa}{tg:Expr}(a it:Addr):Turn P w K tg (Itl K a) [it] it (fun i h=>h.IsListIter it a i) where
 mem:=by simp
 obj:=fun i h st b hb=>by
  have e:b=it:=by simpa using hb
  subst e
  obtain⟨o,e,c,d⟩:=st
  exact⟨o,e,fun v z=>by rw[d]at z;cases z⟩
 keep:=fun i h h' st k=>st.at fun o e=>k it (by simp) o e
 item:=by
  intro X hP hw hK hc i pins s σ H E I hf st hg
  subst hP hw hK
  obtain⟨xs,x,hq,hx⟩:=hg
  obtain⟨its,rv,p,hz⟩:=I.list hq
  obtain⟨u,hu,ru⟩:=rv.get hx
  obtain⟨f0,f1,f2,f3,f4,f5⟩:=hf it (by simp)
  refine wpAny_pyNext_list_item st p.isList (x:=u) (by simpa using hu) fun h' st' sb=>?_
  have I1:Inv X pins σ H { s with heap:=h' }:=I.turned (t':=s.toks) (fun b o hb e=>(sb.2 b hb).trans e) f0 f1 f3 f4 f5
  obtain⟨o,e,c,d⟩:=id st'
  exact⟨u,rfl,x2O (s:={ s with heap:=h' }) e c d (by decide) ⟨x,H,I1,ru,⟨rfl,fun ys hy=>by rw[I.list_inj hy hq];exact hx⟩,st',fun b hb=>(hf b hb).1⟩⟩
 done:=by
  intro X hP hw hK hc i pins s σ H E I hf st hg
  subst hP hw hK
  obtain⟨xs,hq,hx⟩:=hg
  obtain⟨its,rv,p,hz⟩:=I.list hq
  obtain⟨f0,f1,f2,f3,f4,f5⟩:=hf it (by simp)
  have hl:=rv.length
  exact wpAny_pyNext_list_end (I.ok.hd hc) st p.isList (by simp;omega) fun h' eb=>⟨rfl,I.turned (t':=s.toks) (fun b o hb e=>eb b o hb e) f0 f1 f3 f4 f5⟩
 self:=fun _ _ _ _ _ st h=>wpAny_pyIter_listiter st h
theorem y6b{P:dw}{w:fE}{K:aa}{tg:Expr}(a it:Addr):Turn P w K tg (Itt K a) [it] it (fun i h=>h.IsTupleIter it a i) where
 mem:=by simp
 obj:=fun i h st b hb=>by
  have e:b=it:=by simpa using hb
  subst e
  obtain⟨o,e,c,d⟩:=st
  exact⟨o,e,fun v z=>by rw[d]at z;cases z⟩
 keep:=fun i h h' st k=>st.at fun o e=>k it (by simp) o e
 item:=by
  intro X hP hw hK hc i pins s σ H E I hf st hg
  subst hP hw hK
  obtain⟨xs,x,hq,hx⟩:=hg
  obtain⟨its,rv,p,hz⟩:=I.tuple hq
  obtain⟨u,hu,ru⟩:=rv.get hx
  obtain⟨f0,f1,f2,f3,f4,f5⟩:=hf it (by simp)
  refine wpAny_pyNext_tuple_item st (show s.heap.IsTuple a its.toArray from p) (x:=u) (by simpa using hu) fun h' st' sb=>?_
  have I1:Inv X pins σ H { s with heap:=h' }:=I.turned (t':=s.toks) (fun b o hb e=>(sb.2 b hb).trans e) f0 f1 f3 f4 f5
  obtain⟨o,e,c,d⟩:=id st'
  exact⟨u,rfl,x2O (s:={ s with heap:=h' }) e c d (by decide) ⟨x,H,I1,ru,⟨rfl,fun ys hy=>by rw[I.tuple_inj hy hq];exact hx⟩,st',fun b hb=>(hf b hb).1⟩⟩
 done:=by
  intro X hP hw hK hc i pins s σ H E I hf st hg
  subst hP hw hK
  obtain⟨xs,hq,hx⟩:=hg
  obtain⟨its,rv,p,hz⟩:=I.tuple hq
  obtain⟨f0,f1,f2,f3,f4,f5⟩:=hf it (by simp)
  have hl:=rv.length
  exact wpAny_pyNext_tuple_end (I.ok.hd hc) st (show s.heap.IsTuple a its.toArray from p) (by simp;omega) fun h' eb=>⟨rfl,I.turned (t':=s.toks) (fun b o hb e=>eb b o hb e) f0 f1 f3 f4 f5⟩
 self:=fun _ _ _ _ _ st h=>wpAny_pyIter_tupleiter st h
theorem y5W{P:dw}{w:fE}{K:aa}{tg:Expr}(it:Addr)(lo:Int)(n:Nat):Turn P w K tg (Itr lo n) [it] it (fun i h=>IsRangeIter h it (lo+(i:Nat)*1) ((n:Int) - (i:Nat)) 1) where
 mem:=by simp
 obj:=fun i h st b hb=>by
  have e:b=it:=by simpa using hb
  subst e
  exact⟨_,st,fun v z=>by
   have z':Data.fields _=Data.cell v:=z
   cases z'⟩
 keep:=fun i h h' st k=>k it (by simp) _ st
 item:=by
  intro X hP hw hK hc i pins s σ H E I hf st hg
  subst hP hw hK
  obtain⟨f0,f1,f2,f3,f4,f5⟩:=hf it (by simp)
  have W:=Walks.range (prog:=X.prog) (w:=X.w) (I.ok.hd hc) it lo 1 n
  refine W.item i s _ _ hg st fun v h' tk hv st' kk=>?_
  obtain⟨t,rfl⟩:=hv
  have I1:Inv X pins σ H { s with heap:=h',toks:=tk }:=I.turned (fun b o hb e=>kk b o (by simpa using hb) e) f0 f1 f3 f4 f5
  refine⟨_,rfl,x2O (s:={ s with heap:=h',toks:=tk }) (n := "range_iterator") st' rfl rfl (by decide) ⟨.int (lo+i),H,I1,⟨t,?_⟩,⟨rfl,rfl⟩,st',fun b hb=>(hf b hb).1⟩⟩
  rw[Int.mul_one]
 done:=by
  intro X hP hw hK hc i pins s σ H E I hf st hg
  subst hP hw hK
  obtain⟨f0,f1,f2,f3,f4,f5⟩:=hf it (by simp)
  exact wpAny_pyNext_range_end (I.ok.hd hc) st (by have:n≤i:=hg;omega) fun h' eb=>⟨rfl,I.turned (t':=s.toks) (fun b o hb e=>eb b o hb e) f0 f1 f3 f4 f5⟩
 self:=fun _ _ _ _ _ st h=>wpAny_pyIter_rangeiter st h
section
variable{X:Cx}{tg:Expr}
theorem y5B{pins:List (Addr×Obj)}{σ:St}{H:Hp}{s:Shared}{R:It->Hp->Prop}{E:Value->Shared->Prop}{lo hi:Int}{t u v:Tok}{tk:Nat}(I:Inv X pins σ H s)(h1:-(2 ^ 62)≤lo)(h2:lo<2 ^ 62)(h3:-(2 ^ 62)≤hi)(h4:hi<2 ^ 62)
  (q:R (Itr lo (hi - lo).toNat) H):wpAny (model X.prog X.w) X.A (pyIter (.ref s.heap.objs.size)) (PIE X pins σ tg R) E { s with heap:=s.heap.push { cls:=.type "range",data:=.fields #[.int lo t,.int hi u,.int 1 v] },toks:=tk }:=by
 refine wpAny_pyIter_range (IsRange.new ..) (small_one h1 h2 h3 h4) ?_
 have I1:Inv X pins σ H { s with heap:=s.heap.push { cls:=.type "range",data:=.fields #[.int lo t,.int hi u,.int 1 v] },toks:=tk }:=I.kept fun b o e=>Heap.get?_push_of_some _ e
 refine⟨(s.heap.push { cls:=.type "range",data:=.fields #[.int lo t,.int hi u,.int 1 v] }).objs.size,[(s.heap.push { cls:=.type "range",data:=.fields #[.int lo t,.int hi u,.int 1 v] }).objs.size],_,_,H,rfl,
  I1.kept (t':=tk) fun b o e=>Heap.get?_push_of_some _ e,y5W _ lo (hi - lo).toNat,?_,fun b hb=>?_,q⟩
 ·have e1:lo+((0:Nat):Int)*1=lo:=by simp
  have e2:(((hi - lo).toNat:Nat):Int) - ((0:Nat):Int)=Builtin.Range.rangeSize lo hi 1:=by rw[rangeSize_one];split <;> omega
  show IsRangeIter _ _ (lo+((0:Nat):Int)*1) ((((hi - lo).toNat:Nat):Int) - ((0:Nat):Int)) 1
  rw[e1,e2]
  exact Heap.get?_push_size _ rfl
 ·have e:b=(s.heap.push { cls:=.type "range",data:=.fields #[.int lo t,.int hi u,.int 1 v] }).objs.size:=by simpa using hb
  subst e
  exact I1.fpOk (am _) (I1.hok.fresh (am _))
def iRng1(ta:TA):TI:=fun σ H R=>ta σ H fun vs H1=>∃j:Int,vs=[.int j]∧-(2 ^ 62)≤j∧j<2 ^ 62∧R (Itr 0 j.toNat) H1
def iRng2(ta:TA):TI:=fun σ H R=>ta σ H fun vs H1=>∃i j:Int,vs=[.int i,.int j]∧(-(2 ^ 62)≤i∧i<2 ^ 62∧-(2 ^ 62)≤j∧j<2 ^ 62)∧R (Itr i (j - i).toNat) H1
theorem y8x{a:Expr}{ta:TA}{p pos:Pos}(hg:Gl X "range")(hm:X.mg "range" = none)(ha:PA X [a] ta)(hs:starEach [a] X.env=[(false,eval a X.env)]:=by rfl):PI X tg (.Call (.Name "range" p) [a] [] pos) (iRng1 ta):=by
 intro pins s σ H R I h
 refine Call_ (z5D I hg hm boot_range (PyProof.Rows.callWith_type1 (thn (ha pos pins s σ H _ I h) fun us s1 ⟨vs,H1,I1,r1,q1⟩=>?_) hs rfl))
 obtain⟨j,e,q1,q2,q⟩:=q1
 subst e
 cases r1 with
 |cons r rr=>
  cases rr
  obtain⟨t,rfl⟩:=r
  exact call_range_1 (y5B I1 (by omega) (by omega) q1 q2 (by simpa using q))
theorem y9C{a b:Expr}{ta:TA}{p pos:Pos}(hg:Gl X "range")(hm:X.mg "range" = none)(ha:PA X [a,b] ta)(hs:starEach [a,b] X.env=[(false,eval a X.env),(false,eval b X.env)]:=by rfl)(hs2:starEach [b] X.env=[(false,eval b X.env)]:=by rfl):
  PI X tg (.Call (.Name "range" p) [a,b] [] pos) (iRng2 ta):=by
 intro pins s σ H R I h
 refine Call_ (z5D I hg hm boot_range (PyProof.Rows.callWith_type1 (thn (ha pos pins s σ H _ I h) fun us s1 ⟨vs,H1,I1,r1,q1⟩=>?_) (by rw[hs,hs2]) (by rw[hs2];rfl)))
 obtain⟨i,j,e,⟨q1,q2,q3,q4⟩,q⟩:=q1
 subst e
 cases r1 with
 |cons r rr=>
  cases rr with
  |cons r' rr=>
   cases rr
   obtain⟨t,rfl⟩:=r
   obtain⟨t',rfl⟩:=r'
   exact call_range_2 (y5B I1 q1 q2 q3 q4 q)
def tFor(wi:TI)(g:TG)(tb:TS):TS:=fun D σ H=>wi σ H fun J H1=>∃W:Nat->Nat->St->Hp->Prop,(∃m,W 0 m σ H1)∧∀i m σ H,W i m σ H →
 (J.stop i H∧D.nx σ H)∨(J.go i H∧∃N:St->Hp->Prop,(∀σ' H',N σ' H'->∃m',m'<m∧W (i+1) m' σ' H')∧∀x H',J.yld i H x H'->g x σ H' fun σ2 H2=>tb { D with nx:=N,ct:=N,bk:=D.nx } σ2 H2)
def y1f(fp:List Addr)(h:Heap):List (Addr×Obj):=fp.filterMap fun b=>(h.get? b).map fun o=>(b,o)
theorem z4y{fp:List Addr}{h:Heap}{b:Addr}{o:Obj}(hb:b∈fp)(e:h.get? b=some o):(b,o)∈y1f fp h:=fy.mpr ⟨b,hb,by rw[e];rfl⟩
theorem x1e{fp:List Addr}{h:Heap}{p:Addr×Obj}(hp:p∈y1f fp h):p.1∈fp∧h.get? p.1=some p.2:=by
 obtain⟨b,hb,e⟩:=fy.mp hp
 cases q:h.get? b with
 |none=>rw[q]at e;cases e
 |some o=>
  rw[q]at e
  have e':(b,o)=p:=Option.some.inj e
  subst e'
  exact⟨hb,q⟩
theorem Inv.pinned{pins:List (Addr×Obj)}{σ:St}{H:Hp}{s:Shared}{fp:List Addr}(I:Inv X pins σ H s)(hf:∀b∈fp,y2A X pins H b)(ho:∀b∈fp,∃o,s.heap.get? b=some o∧∀v,o.data≠.cell v):Inv X (pins++y1f fp s.heap) σ H s:=
 I.pins_of fun p hp=>(au.mp hp).elim (fun z=>I.pin p (aQ _ z)) fun z=>by
  obtain⟨hb,e⟩:=x1e z
  obtain⟨f0,f1,f2,_⟩:=hf p.1 hb
  obtain⟨o,e',d⟩:=ho p.1 hb
  rw[e]at e';cases e'
  exact⟨e,f0,f1,f2,d⟩
theorem Inv.unpinned{pins pl:List (Addr×Obj)}{σ:St}{H:Hp}{s:Shared}(I:Inv X (pins++pl) σ H s):Inv X pins σ H s:=I.pins_of fun p hp=>I.pin p (aQ _ (b9 _ hp))
theorem x4m{iter:Expr}{body:List Stmt}{wi:TI}{g:TG}{tb:TS}{pos:Pos}(hp:PassesOwn (model X.prog X.w) X.A X.env X.xe)(hc:X.calm=true)(hi:PI X tg iter wi)(hg:PG X tg g)(hb:PSs X body tb)
  (hs:∀x,foldedSetIterable iter X.env x=pure x:=by intro _;rfl):PS X (.For tg iter body [] pos) (tFor wi g tb):=by
 intro pins s σ H D I h
 refine wpAny_For (thn (hi pins s σ H _ I h) fun v s1 h1=>thn h1 fun itv s2 h2=>?_) hs
 obtain⟨it,fp,tn,J,H2,e,I2,T,st2,f2,W,⟨m0,w0⟩,turn⟩:=h2
 subst e
 have stat:∀{H':Hp},(∀b∈fp,H' b=none)->∀b∈fp,y2A X pins H' b:=fun hn b hb=>⟨hn b hb,(f2 b hb).2⟩
 refine codeAny_forLoop_any (fun n s'=>∃i σ' H',Inv X pins σ' H' s'∧tn i s'.heap∧(∀b∈fp,H' b=none)∧W i n σ' H') ?_ m0 ⟨0,σ,H2,I2,st2,fun b hb=>(f2 b hb).1,w0⟩
 rintro n s3 ⟨i,σ3,H3,I3,st3,fr3,w3⟩
 rcases turn i n σ3 H3 w3 with⟨stop,qn⟩ | ⟨go,N,hN,step⟩
 ·refine wpAny_passesOwn hp (thn (T.done X rfl rfl rfl hc i pins s3 σ3 H3 X.xe I3 (stat fr3) st3 stop) fun r s4 ⟨hr,I4⟩=>?_)
  subst hr
  exact wpAny_execs_nil ⟨σ3,H3,I4,qn⟩
 ·refine wpAny_passesOwn hp (thn (T.item X rfl rfl rfl hc i pins s3 σ3 H3 X.xe I3 (stat fr3) st3 go) fun r s4 ⟨u,hr,h4⟩=>?_)
  subst hr
  refine wpAny_passesOwn hp (thn h4 fun _ s5 ⟨x,H5,I5,r5,y5,st5,fr5⟩=>?_)
  have I5':=I5.pinned (stat fr5) (T.obj _ _ st5)
  refine wpAny_passesOwn hp (thn (hg _ s5 σ3 H5 x u _ I5' r5 (step x H5 y5)) fun _ s6 ⟨σ6,H6,I6,q6⟩=>?_)
  refine wpAny_passesOwn hp (thn (hb _ s6 σ6 H6 _ I6 q6) fun f s7 q7=>?_)
  have again:∀{σ7:St} {H7:Hp},Inv X (pins++y1f fp s5.heap) σ7 H7 s7->N σ7 H7->∃m,m<n∧∃i σ' H',Inv X pins σ' H' s7∧tn i s7.heap∧(∀b∈fp,H' b=none)∧W i m σ' H':=fun {σ7 H7} I7 n7=>by
   obtain⟨m',hm,w7⟩:=hN σ7 H7 n7
   refine⟨m',hm,i+1,σ7,H7,I7.unpinned,T.keep _ _ _ st5 fun b hb o e=>(I7.pin (b,o) (aQ _ (aQ _ (z4y hb e)))).1,fun b hb=>?_,w7⟩
   obtain⟨o,e,d⟩:=T.obj _ _ st5 b hb
   exact(I7.pin (b,o) (aQ _ (aQ _ (z4y hb e)))).2.1
  cases f with
  |next=>obtain⟨σ7,H7,I7,n7⟩:=q7;exact again I7 n7
  |cont=>obtain⟨σ7,H7,I7,n7⟩:=q7;exact again I7 n7
  |brk=>obtain⟨σ7,H7,I7,q7⟩:=q7;exact⟨σ7,H7,I7.unpinned,q7⟩
  |ret v=>obtain⟨x7,σ7,H7,I7,r7,q7⟩:=q7;exact⟨x7,σ7,H7,I7.unpinned,r7,q7⟩
end
theorem z9Q{K:aa}{a:Addr}{xs:List V}{g:TG}{tb:TS}{D:Ends}{σ:St}{H:Hp}(Pv:Nat->St->Hp->Prop)(h0:Pv 0 σ H)(hl:∀i σ H,i≤xs.length->Pv i σ H->SqL K H a xs)
  (hs:∀i x σ H,xs[i]? = some x->Pv i σ H->g x σ H fun σ2 H2=>tb { D with nx:=Pv (i+1),ct:=Pv (i+1),bk:=D.nx } σ2 H2) (hd:∀σ H,Pv xs.length σ H->D.nx σ H):
  ∃W:Nat->Nat->St->Hp->Prop,(∃m,W 0 m σ H)∧∀i m σ H,W i m σ H →
   ((Itl K a).stop i H∧D.nx σ H)∨((Itl K a).go i H∧∃N:St->Hp->Prop,(∀σ' H',N σ' H'->∃m',m'<m∧W (i+1) m' σ' H')∧∀x H',(Itl K a).yld i H x H'->g x σ H' fun σ2 H2=>tb { D with nx:=N,ct:=N,bk:=D.nx } σ2 H2):=by
 refine⟨fun i m σ H=>m=xs.length - i∧i≤xs.length∧Pv i σ H,⟨xs.length,by simp,bu _,h0⟩,?_⟩
 rintro i m σ H ⟨rfl,hi,p⟩
 have q:=hl i σ H hi p
 by_cases hlt:i<xs.length
 ·refine .inr ⟨⟨xs,xs[i],q,by simp[hlt]⟩,Pv (i+1),fun σ' H' p'=>⟨xs.length - (i+1),by omega,rfl,hlt,p'⟩,fun x H' y=>?_⟩
  obtain⟨e,y⟩:=y
  subst e
  exact hs i x σ _ (y xs q) p
 ·have e:i=xs.length:=by omega
  subst e
  exact .inl ⟨⟨xs,q,am _⟩,hd σ H p⟩
abbrev R2:=V->V->Hp->VK->Prop
def OpR(X:Cx)(f:Value->Value->Sem Value)(r:R2):Prop:=
 ∀(pins:List (Addr×Obj)) (s:Shared) (σ:St) (H:Hp) (x y:V) (v u:Value) (Q:VK),Inv X pins σ H s->RelV x v->RelV y u->r x y H Q →
  wpAny (model X.prog X.w) X.A (f v u) (EP X pins σ Q) X.xe s
def UnR(X:Cx)(f:Value->Sem Value)(r:V->Hp->VK->Prop):Prop:=
 ∀(pins:List (Addr×Obj)) (s:Shared) (σ:St) (H:Hp) (x:V) (v:Value) (Q:VK),Inv X pins σ H s->RelV x v->r x H Q →
  wpAny (model X.prog X.w) X.A (f v) (EP X pins σ Q) X.xe s
def z3w(X:Cx)(f:Value)(r:List V->Hp->VK->Prop):Prop:=
 ∀(pins:List (Addr×Obj)) (s:Shared) (σ:St) (H:Hp) (xs:List V) (us:List Value) (Q:VK),Inv X pins σ H s->Vals xs us->r xs H Q →
  wpAny (model X.prog X.w) X.A (call f us) (EP X pins σ Q) X.xe s
def TruR(X:Cx)(r:V->Hp->(Bool->Hp->Prop)->Prop):Prop:=
 ∀(pins:List (Addr×Obj)) (s:Shared) (σ:St) (H:Hp) (x:V) (v:Value) (Q:Bool->Hp->Prop),Inv X pins σ H s->RelV x v->r x H Q →
  wpAny (model X.prog X.w) X.A (truthy v) (TP X pins σ Q) X.xe s
def tOp(r:R2)(ta tb:TE):TE:=fun σ H Q=>ta σ H fun x H1=>tb σ H1 fun y H2=>r x y H2 Q
def tUn(r:V->Hp->VK->Prop)(ta:TE):TE:=fun σ H Q=>ta σ H fun x H1=>r x H1 Q
def rI(C:Int->Int->Prop)(g:Int->Int->V):R2:=fun x y H Q=>∃i j,x = .int i∧y = .int j∧C i j∧Q (g i j) H
def rI0(g:Int->Int->V):R2:=fun x y H Q=>∃i j,x = .int i∧y = .int j∧Q (g i j) H
def rU(g:Int->V):V->Hp->VK->Prop:=fun x H Q=>∃i,x = .int i∧Q (g i) H
section
variable{X:Cx}{a b:Expr}{ta tb:TE}{pos:Pos}
theorem binT(ha:PE X a ta)(hb:PE X b tb){pins:List (Addr×Obj)}{s:Shared}{σ:St}{H:Hp}{R:V->V->Hp->Prop}(I:Inv X pins σ H s)
  (h:ta σ H fun x H1=>tb σ H1 fun y H2=>R x y H2) {Q:Value->Shared->Prop} {f:Value->Value->Sem Value}
  (hf:∀v u s2 x y H2,Inv X pins σ H2 s2->RelV x v->RelV y u->R x y H2->wpAny (model X.prog X.w) X.A (f v u) Q X.xe s2):
  wpAny (model X.prog X.w) X.A (eval a X.env) (fun v s₁=>wpAny (model X.prog X.w) X.A (eval b X.env) (fun u s₂=>wpAny (model X.prog X.w) X.A (f v u) Q X.xe s₂) X.xe s₁) X.xe s:=by
 refine thn (ha pins s σ H _ I h) fun v s1 ⟨x,H1,I1,r1,q1⟩=>?_
 refine thn (hb pins s1 σ H1 _ I1 q1) fun u s2 ⟨y,H2,I2,r2,q2⟩=>?_
 exact hf v u s2 x y H2 I2 r1 r2 q2
theorem y6F{op:Operator}{r:R2}(ho:OpR X (fM op) r)(ha:PE X a ta)(hb:PE X b tb):PE X (.BinOp a op b pos) (tOp r ta tb):=by
 intro pins s σ H Q I h
 exact wpAny_BinOp (binT ha hb I h fun v u s2 x y H2 I2 rx ry q=>ho pins s2 σ H2 x y v u Q I2 rx ry q)
theorem pe_un{op:UnaryOp}{r:V->Hp->VK->Prop}(ho:UnR X (unaryOp op) r)(ha:PE X a ta):PE X (.UnaryOp op a pos) (tUn r ta):=by
 intro pins s σ H Q I h
 exact UnaryOp_ (thn (ha pins s σ H _ I h) fun v s1 ⟨x,H1,I1,r1,q1⟩=>ho pins s1 σ H1 x v Q I1 r1 q1)
theorem opI{f:Value->Value->Sem Value}{C:Int->Int->Prop}{g:Int->Int->Int}
  (rule:∀(i j:Int) (t u:Tok) (s:Shared) (Q:Value->Shared->Prop) (E:Value->Shared->Prop),C i j->Q (.int (g i j) s.toks) { s with toks:=s.toks+1 }->wpAny (model X.prog X.w) X.A (f (.int i t) (.int j u)) Q E s):
  OpR X f (rI C fun i j=>.int (g i j)):=by
 intro pins s σ H x y v u Q I rx ry h
 obtain⟨i,j,rfl,rfl,hc,q⟩:=h
 obtain⟨t,rfl⟩:=rx
 obtain⟨t',rfl⟩:=ry
 exact rule i j t t' s _ _ hc ⟨.int (g i j),H,I.tok _,⟨_,rfl⟩,q⟩
theorem opI0{f:Value->Value->Sem Value}{g:Int->Int->Int}
  (rule:∀(i j:Int) (t u:Tok) (s:Shared) (Q:Value->Shared->Prop) (E:Value->Shared->Prop),Q (.int (g i j) s.toks) { s with toks:=s.toks+1 }->wpAny (model X.prog X.w) X.A (f (.int i t) (.int j u)) Q E s):
  OpR X f (rI0 fun i j=>.int (g i j)):=by
 intro pins s σ H x y v u Q I rx ry h
 obtain⟨i,j,rfl,rfl,q⟩:=h
 obtain⟨t,rfl⟩:=rx
 obtain⟨t',rfl⟩:=ry
 exact rule i j t t' s _ _ ⟨.int (g i j),H,I.tok _,⟨_,rfl⟩,q⟩
theorem opB0{f:Value->Value->Sem Value}{g:Int->Int->Bool}
  (rule:∀(i j:Int) (t u:Tok) (s:Shared) (Q:Value->Shared->Prop) (E:Value->Shared->Prop),Q (.bool (g i j)) s->wpAny (model X.prog X.w) X.A (f (.int i t) (.int j u)) Q E s):
  OpR X f (rI0 fun i j=>.bl (g i j)):=by
 intro pins s σ H x y v u Q I rx ry h
 obtain⟨i,j,rfl,rfl,q⟩:=h
 obtain⟨t,rfl⟩:=rx
 obtain⟨t',rfl⟩:=ry
 exact rule i j t t' s _ _ ⟨.bl (g i j),H,I,rfl,q⟩
def CDiv(i j:Int):Prop:=0<j∧j<1073741824
def x3e(i j:Int):Prop:=j≠0∧j.natAbs<1073741824
def CPow(i j:Int):Prop:=0≤j∧j≤1000000∧i.natAbs<2 ^ 64
def CMul(i j:Int):Prop:=(-(2 ^ 64)<i∧i<2 ^ 64)∨(-(2 ^ 64)<j∧j<2 ^ 64)
theorem CMul.ok{i j:Int}(h:CMul i j):IntMulOk i j:=by
 rcases h with⟨h1,h2⟩ | ⟨h1,h2⟩
 ·exact .of_left (intBits_le_64 h1 h2)
 ·exact .of_right (intBits_le_64 h1 h2)
theorem op_add:OpR X (fM .Add) (rI0 fun i j=>.int (i+j)):=opI0 fun _ _ _ _ _ _ _ q=>add_int q
theorem op_sub:OpR X (fM .Sub) (rI0 fun i j=>.int (i - j)):=opI0 fun _ _ _ _ _ _ _ q=>sub_int q
theorem op_mul:OpR X (fM .Mult) (rI CMul fun i j=>.int (i*j)):=opI fun _ _ _ _ _ _ _ hc q=>mul_int q hc.ok
theorem op_fdiv:OpR X (fM .FloorDiv) (rI CDiv fun i j=>.int (i / j)):=opI fun i j _ _ _ _ _ hc q=>by
 have h1:(0:Int)<j:=hc.1
 have h2:j<1073741824:=hc.2
 exact floordiv_int (by omega) (by rw[Int.fdiv_eq_ediv_of_nonneg i (by omega)];exact q) (.inl (PyProof.noPylong_small (by omega)))
theorem x3J:OpR X (fM .FloorDiv) (rI x3e fun i j=>.int (i.fdiv j)):=opI fun _ _ _ _ _ _ _ hc q=>floordiv_int hc.1 q (.inl (PyProof.noPylong_small hc.2))
theorem op_mod:OpR X (fM .Mod) (rI (fun _ j=>0<j) fun i j=>.int (i % j)):=opI fun i j _ _ _ _ _ hc q=>by
 have h1:(0:Int)<j:=hc
 exact mod_int' (by omega) (by rw[Int.fmod_eq_emod_of_nonneg i (by omega)];exact q)
theorem op_pow:OpR X (fM .Pow) (rI CPow fun i j=>.int (i ^ j.toNat)):=opI fun _ _ _ _ _ _ _ hc q=>pow_int_small hc.1 hc.2.1 hc.2.2 q
theorem unI{f:Value->Sem Value}{g:Int->Int}
  (rule:∀(i:Int) (t:Tok) (s:Shared) (Q:Value->Shared->Prop) (E:Value->Shared->Prop),Q (.int (g i) s.toks) { s with toks:=s.toks+1 }->wpAny (model X.prog X.w) X.A (f (.int i t)) Q E s):
  UnR X f (rU fun i=>.int (g i)):=by
 intro pins s σ H x v Q I rx h
 obtain⟨i,rfl,q⟩:=h
 obtain⟨t,rfl⟩:=rx
 exact rule i t s _ _ ⟨.int (g i),H,I.tok _,⟨_,rfl⟩,q⟩
theorem un_neg:UnR X (unaryOp .USub) (rU fun i=>.int (-i)):=unI fun _ _ _ _ _ q=>neg_int q
end
section
variable{X:Cx}{a b c:Expr}{ta tb tc:TE}{pos:Pos}
theorem op_lt:OpR X (compareOp .Lt) (rI0 fun i j=>.bl (decide (i<j))):=opB0 fun _ _ _ _ _ _ _ q=>lt_int q
theorem op_le:OpR X (compareOp .LtE) (rI0 fun i j=>.bl (decide (i≤j))):=opB0 fun _ _ _ _ _ _ _ q=>le_int q
theorem op_gt:OpR X (compareOp .Gt) (rI0 fun i j=>.bl (decide (j<i))):=opB0 fun _ _ _ _ _ _ _ q=>gt_int q
theorem z6y(b:Expr){op:CmpOp}(h:op≠.In:=by decide)(h2:op≠.NotIn:=by decide):fH op b=false:=by
 have e1:(op==CmpOp.In)=false:=by cases op <;> first | rfl | exact absurd rfl h
 have e2:(op==CmpOp.NotIn)=false:=by cases op <;> first | rfl | exact absurd rfl h2
 cases b <;> simp[fH,e1,e2]
theorem pe_cmpR{op:CmpOp}{r:R2}(ho:OpR X (compareOp op) r)(ha:PE X a ta)(hb:PE X b tb)(hm:fH op b=false):PE X (.Compare a [op] [b] pos) (tOp r ta tb):=by
 intro pins s σ H Q I h
 exact wpAny_Compare1 (binT ha hb I h fun v u s2 x y H2 I2 rx ry q=>ho pins s2 σ H2 x y v u Q I2 rx ry q) hm
def tTest(t:TE):TT:=fun σ H Q=>t σ H fun x H'=>∃k,x = .bl k∧Q k H'
theorem pt_cmpR{op:CmpOp}{r:R2}(ho:OpR X (compareOp op) r)(ha:PE X a ta)(hb:PE X b tb)(hm:fH op b=false):PT X (.Compare a [op] [b] pos) (tTest (tOp r ta tb)):=by
 intro pins s σ H Q I h
 refine wpAny_isTrue_Compare1 (thn (ha pins s σ H _ I h) fun v s1 ⟨x,H1,I1,r1,q1⟩=>thn (hb pins s1 σ H1 _ I1 q1) fun u s2 ⟨y,H2,I2,r2,q2⟩=>
  thn (ho pins s2 σ H2 x y v u _ I2 r1 r2 q2) fun c s3 ⟨z,H3,I3,r3,k,e,q3⟩=>?_) hm
 subst e
 cases r3
 exact wpAny_truthy_bool ⟨H3,I3,q3⟩
def x5o(r r':R2)(ta tb tc:TE):TE:=fun σ H Q=>ta σ H fun x H1=>tb σ H1 fun y H2=>r x y H2 fun z H3=>∃k,z = .bl k ∧
 (if k=true then tc σ H3 fun w' H4=>r' y w' H4 Q else Q (.bl false) H3)
theorem x3l{op op':CmpOp}{r r':R2}(ho:OpR X (compareOp op) r)(ho':OpR X (compareOp op') r')(ha:PE X a ta)(hb:PE X b tb)(hc:PE X c tc)
  (hm:lastMarks [op,op'] [b,c]=false:=by with_unfolding_all rfl):PE X (.Compare a [op,op'] [b,c] pos) (x5o r r' ta tb tc):=by
 intro pins s σ H Q I h
 refine Compare_chain (thn (ha pins s σ H _ I h) fun v s1 ⟨x,H1,I1,r1,q1⟩=>chain_link (thn (hb pins s1 σ H1 _ I1 q1) fun u s2 ⟨y,H2,I2,r2,q2⟩=>
  thn (ho pins s2 σ H2 x y v u _ I2 r1 r2 q2) fun d s3 ⟨z,H3,I3,r3,k,e,q3⟩=>?_)) hm
 subst e
 cases r3
 refine wpAny_truthy_bool ?_
 cases k with
 |false=>exact ite_ff ⟨.bl false,H3,I3,rfl,q3⟩
 |true=>exact ite_tt (chain_last (thn (hc pins s3 σ H3 _ I3 q3) fun w' s4 ⟨z',H4,I4,r4,q4⟩=>ho' pins s4 σ H4 y z' u w' Q I4 r2 r4 q4))
def TruV(K:aa)(x:V)(H:Hp)(k:Bool):Prop:=
 match x with
 |.non=>k=false
 |.bl b=>k=b
 |.int i=>k=(i != 0)
 |.str y=>y.length≤sizeLine∧k=((y.length:Int) != 0)
 |.byt y=>y.size≤sizeLine∧k=((y.size:Int) != 0)
 |.ref p=>(∃xs,SqL K H p xs∧k = !xs.isEmpty)∨(∃xs,SqT K H p xs∧k = !xs.isEmpty)∨∃kvs,H p=some (.dK kvs)∧k = !kvs.isEmpty
 |_=>False
theorem y5Y{κ:Type}{kvs:List (κ×V)}{vs:List (κ×Value)}(r:KV kvs vs):(!vs.isEmpty) = !kvs.isEmpty:=by
 cases r <;> rfl
theorem z8W{xs:List V}{its:List Value}(r:Vals xs its):(!its.toArray.isEmpty) = !xs.isEmpty:=by
 cases r <;> simp
theorem z9e:(sizeLine:Nat)<2 ^ 63:=by rw[sizeLine_eq];decide
theorem tru_ok:TruR X (fun x H Q=>∃k,TruV X.K x H k∧Q k H):=by
 intro pins s σ H x v Q I rx h
 obtain⟨k,e,q⟩:=h
 have hl:=z9e
 have hs:sizeLine=16777216:=sizeLine_eq
 cases x with
 |non=>
  cases rx
  have e':k=false:=e
  subst e'
  exact truthy_none ⟨H,I,q⟩
 |bl b=>
  cases rx
  have e':k=b:=e
  subst e'
  exact wpAny_truthy_bool ⟨H,I,q⟩
 |int i=>
  obtain⟨t,rfl⟩:=rx
  have e':k=(i != 0):=e
  subst e'
  exact PySem.P.truthy_int ⟨H,I,q⟩
 |str y=>
  obtain⟨t,rfl⟩:=rx
  obtain⟨hy,e'⟩:y.length≤sizeLine∧k=((y.length:Int) != 0):=e
  subst e'
  exact PySem.P.truthy_str (by omega) ⟨H,I.tok _,q⟩
 |byt y=>
  obtain⟨t,rfl⟩:=rx
  obtain⟨hy,e'⟩:y.size≤sizeLine∧k=((y.size:Int) != 0):=e
  subst e'
  exact PySem.W.truthy_bytes (by omega) ⟨H,I.tok _,q⟩
 |ref p=>
  cases rx
  have e':(∃xs,SqL X.K H p xs∧k = !xs.isEmpty)∨(∃xs,SqT X.K H p xs∧k = !xs.isEmpty)∨∃kvs,H p=some (.dK kvs)∧k = !kvs.isEmpty:=e
  rcases e' with⟨xs,hx,e'⟩ | ⟨xs,hx,e'⟩ | ⟨kvs,hx,e'⟩
  ·subst e'
   obtain⟨its,r,pl,hz⟩:=I.list hx
   have hlen:=r.length
   exact wpAny_truthy_list pl.isList (by simp only[av];omega) ⟨H,I.tok _,by rw[z8W r];exact q⟩
  ·subst e'
   obtain⟨its,r,pl,hz⟩:=I.tuple hx
   have hlen:=r.length
   exact truthy_tuple pl (by simp only[av];omega) ⟨H,I.tok _,by rw[z8W r];exact q⟩
  ·subst e'
   obtain⟨hz,hS,vs,r,m⟩:kvs.length≤sizeLine∧(p==sysModules)=false∧∃vs,KV kvs vs∧s.heap.DictOf (z1k X.prog X.w) p vs:=I.hok p _ hx
   have hlen:kvs.length=vs.length:=Paired.length r
   exact wpAny_truthy_dict hS m (by omega) ⟨H,I.tok _,by rw[y5Y r];exact q⟩
 |_=>exact(show False from e).elim
theorem x3j(ha:PE X a ta)(he:∀whole,isTrue a X.env whole=(do let v ←whole;standAt a.pos;holding [v] (truthy v))):
  PT X a (fun σ H Q=>ta σ H fun x H'=>∃k,TruV X.K x H' k∧Q k H'):=by
 intro pins s σ H Q I h
 exact isTrue_plain (thn (ha pins s σ H _ I h) fun v s1 ⟨x,H1,I1,r1,q1⟩=>tru_ok pins s1 σ H1 x v Q I1 r1 q1) (he _)
theorem z6O{x:V}{us:List Value}(r:Vals [x] us):∃u,us=[u]∧RelV x u:=by
 cases r with
 |cons r1 r2=>cases r2;exact⟨_,rfl,r1⟩
theorem vals2{x y:V}{us:List Value}(r:Vals [x,y] us):∃u w',us=[u,w']∧RelV x u∧RelV y w':=by
 cases r with
 |cons r1 r2=>
  cases r2 with
  |cons r3 r4=>cases r4;exact⟨_,_,rfl,r1,r3⟩
theorem x2r:z3w X (.builtin "abs") (fun xs H Q=>∃i,xs=[.int i]∧Q (.int (if i<0 then -i else i)) H):=by
 intro pins s σ H xs us Q I r h
 obtain⟨i,rfl,q⟩:=h
 obtain⟨u,rfl,t,rfl⟩:=z6O r
 exact call_abs_int fun u tk=>⟨.int (if i<0 then -i else i),H,I.tok _,⟨_,rfl⟩,q⟩
def LenV(K:aa)(x:V)(H:Hp)(n:Nat):Prop:=
 match x with
 |.str y=>y.length≤sizeLine∧n=y.length
 |.byt y=>y.size≤sizeLine∧n=y.size
 |.ref p=>(∃xs,SqL K H p xs∧n=xs.length)∨∃xs,SqT K H p xs∧n=xs.length
 |_=>False
theorem x2x:z3w X (.builtin "len") (fun xs H Q=>∃x n,xs=[x]∧LenV X.K x H n∧Q (.int n) H):=by
 intro pins s σ H xs us Q I r h
 obtain⟨x,n,rfl,e,q⟩:=h
 obtain⟨u,rfl,rx⟩:=z6O r
 have hl:=z9e
 have hs:sizeLine=16777216:=sizeLine_eq
 cases x with
 |str y=>
  obtain⟨t,rfl⟩:=rx
  obtain⟨hy,e'⟩:y.length≤sizeLine∧n=y.length:=e
  subst e'
  exact len_str (by omega) ⟨.int _,H,I.tok _,⟨_,rfl⟩,q⟩
 |byt y=>
  obtain⟨t,rfl⟩:=rx
  obtain⟨hy,e'⟩:y.size≤sizeLine∧n=y.size:=e
  subst e'
  exact PySem.W.len_bytes (by omega) ⟨.int _,H,I.tok _,⟨_,rfl⟩,q⟩
 |ref p=>
  cases rx
  have e':(∃xs,SqL X.K H p xs∧n=xs.length)∨∃xs,SqT X.K H p xs∧n=xs.length:=e
  rcases e' with⟨xs,hx,e'⟩ | ⟨xs,hx,e'⟩
  ·subst e'
   obtain⟨its,r',pl,hz⟩:=I.list hx
   have hlen:=r'.length
   exact Calls.call_len_list pl.isList (by simp only[av];omega) ⟨.int xs.length,H,I.tok _,⟨_,by simp only[av];rw[hlen]⟩,q⟩
  ·subst e'
   obtain⟨its,r',pl,hz⟩:=I.tuple hx
   have hlen:=r'.length
   exact len_tuple pl (by simp only[av];omega) ⟨.int xs.length,H,I.tok _,⟨_,by simp only[av];rw[hlen]⟩,q⟩
 |_=>exact(show False from e).elim
end
structure ObjM(h:Heap)(x dx C:Addr)(mA:Str->Option Value):Prop where
 obj:h.get? x=some (dB C dx)
 ns:h.Ns1 dx mA
 ne:dx≠x
theorem y8a{h:Heap}{dx:Addr}{mA:Str->Option Value}(n:h.Ns1 dx mA):∃od,h.get? dx=some od∧∀name,dN name od=some (mA name):=by
 obtain⟨o,es,ep,ho,hd,hk,_,hm⟩:=n
 refine⟨o,ho,fun name=>?_⟩
 have e:=hm name
 unfold nsFind findBy at e
 rw[←Array.find?_toList]at e
 unfold dN
 rw[hd]
 dsimp only
 split
 ·rename_i y q
  rw[q]at e
  exact congrArg some e
 ·rename_i q
  rw[q]at e
  have a:es.toList.any (·.refKey)=false:=by
   rw[b6]
   intro y hy
   obtain⟨z,t,hkey⟩:=hk y (Array.mem_toList_iff.mp hy)
   simp[DictEntry.refKey,hkey]
  have a':¬ es.toList.any (·.refKey)=true:=by rw[a];exact ar
  rw[if_neg a']
  exact congrArg some e
theorem ObjM.look{h:Heap}{x dx C:Addr}{mA:Str->Option Value}(I:ObjM h x dx C mA):∃od,c4 h x (dB C dx) C (some od)∧∀name,dN name od=some (mA name):=
 let⟨od,ho,hl⟩:=y8a I.ns
 ⟨od,⟨I.obj,rfl,rfl,ho⟩,hl⟩
section
end
section
variable{P:dw}{w:fE}{H:Hp}{h:Heap}{a C dx:Addr}{fs:List (Str×V)}
theorem ins_get(hok:HOk P w H h)(e:H a=some (.ins C dx fs)):∃mA,ObjM h a dx C mA∧(∀f,RelO (fs.lookup f) (mA f))∧PySem.Within mA (fs.map (·.1))∧fs.length≤1000∧H dx=some (.own a):=by
 obtain⟨d,z,ne,ob,mA,n,r,q⟩:=(show ObjOk P w H h a (.ins C dx fs) from hok a _ e)
 exact⟨mA,⟨ob,n,ne⟩,r,q,z,d⟩
end
structure Cls(K:aa)(C:Addr):Prop where
 pg:dm K C Str.empty=true
 hd:e8 K C=true
 po:eZ K C=true
 sa:aU K (.ref C) "__setattr__" = some (some (.builtin "object.__setattr__"))
theorem Cls.get{K:aa}{C:Addr}(c:Cls K C)(f:Str):dm K C f=true:=c.pg
def NoAttr(K:aa)(C:Addr)(f:Str):Prop:=aU K (.ref C) f=some none
structure Con(K:aa)(C:Addr)(f:Str)(v:V)(u:Value):Prop where
 at_:aU K (.ref C) f=some (some u)
 rel:RelV v u
 get:bX K u "__get__" = some none
 cp:PySem.W.copiedNames.contains f=false
structure Meth(K:aa)(C:Addr)(m:Str)(f:Addr):Prop where
 at_:aU K (.ref C) m=some (some (.ref f))
 fn:PySem.W.isFn K (.ref f)=true
 kp:bH K (.ref f)=true
section
end
section
end
section
variable{H:Hp}
inductive TyOf(K:aa)(H:Hp):V->Value->Prop where
 |non:TyOf K H .non (.type "NoneType")
 |bl (x:Bool):TyOf K H (.bl x) (.type "bool")
 |int (i:Int):TyOf K H (.int i) (.type "int")
 |str (x:Str):TyOf K H (.str x) (.type "str")
 |flt (x:UInt64):TyOf K H (.flt x) (.type "float")
 |lst {a:Addr} {xs:List V} (e:H a=some (.lst xs)):TyOf K H (.ref a) (.type "list")
 |frz {a:Addr} {o:Obj} {xs:List V} (e:H a=some (.frz o (.lst xs))):TyOf K H (.ref a) (.type "list")
 |tup {a:Addr} {xs:List V} (e:H a=some (.tup xs)):TyOf K H (.ref a) (.type "tuple")
 |dK {a:Addr} {kvs:List (Key×V)} (e:H a=some (.dK kvs)):TyOf K H (.ref a) (.type "dict")
 |dT {a:Addr} {kvs:List (List Key×V)} (e:H a=some (.dT kvs)):TyOf K H (.ref a) (.type "dict")
 |ins {a C dx:Addr} {fs:List (Str×V)} (e:H a=some (.ins C dx fs)) (cl:Cls K C) (ha:aU K (.ref C) "__class__" = some (some (.builtin "object.__class__")))
   (hn:bX K (.builtin "object.__class__") "__get__" = some (some (.builtin "getset_descriptor.__get__"))) (htk:cE K (.builtin "object.__class__")=some true)
   (hm:bL K C (.type "object")=some true):TyOf K H (.ref a) (.ref C)
end
structure Room(k:Nat)(A:Around):Prop where
 hd:A.handled=none
 dp:A.depth+3*k+5<recursionLimit
 un:A.units+16*k+200<cLine
theorem Room.mono{j k:Nat}{A:Around}(r:Room k A)(h:j≤k):Room j A:=⟨r.hd,by have:=r.dp;omega,by have:=r.un;omega⟩
theorem Room.deeper{k:Nat}{A:Around}(r:Room (k+1) A)(env:Env):Room k (A.deeper env):=
 ⟨r.hd,by have:=r.dp;show A.depth+1+3*k+5<_;omega,by have:=r.un;show A.units+3+16*k+200<_;omega⟩
theorem Room.depth{k:Nat}{A:Around}(r:Room k A):A.depth<recursionLimit:=by have:=r.dp;omega
theorem Room.units{k:Nat}{A:Around}(r:Room k A):A.units+64<cLine:=by have:=r.un;omega
def tNil:TA:=fun _ H Q=>Q [] H
def tCons(ta:TE)(tr:TA):TA:=fun σ H Q=>ta σ H fun x H1=>tr σ H1 fun xs H2=>Q (x::xs) H2
section
variable{X:Cx}{e:Expr}{es:List Expr}{te:TE}{t:TA}{pos:Pos}
theorem pa_nil:PA X [] tNil:=fun _ _ _ _ H Q I h=>Calls.spliced_nil ⟨[],H,I,.nil,h⟩
theorem z0M(ha:PE X e te)(hr:PA X es t)(hs:starEach (e::es) X.env=(false,eval e X.env)::starEach es X.env:=by rfl):PA X (e::es) (tCons te t):=by
 intro pos pins s σ H Q I h
 rw[hs]
 show wpAny _ _ (spliced ((false,eval e X.env)::fI pos (starEach es X.env))) _ _ s
 refine Calls.spliced_cons (thn (ha pins s σ H _ I h) fun u s1 ⟨x,H1,I1,r1,q1⟩=>?_)
 exact thn (hr pos pins s1 σ H1 _ I1 q1) fun us s2 ⟨xs,H2,I2,r2,q2⟩=>⟨x::xs,H2,I2,.cons r1 r2,q2⟩
def tTup(t:TA):TE:=fun σ H Q=>t σ H fun xs H1=>xs.length≤sizeLine∧∀p,H1 p=none->Q (.ref p) (upd H1 p (.tup xs))
def tLst(t:TA):TE:=fun σ H Q=>t σ H fun xs H1=>xs.length≤sizeLine∧∀p,H1 p=none->Q (.ref p) (upd H1 p (.lst xs))
theorem x5q{x1}(h:PA X es t):PE X (.Tuple es x1 pos) (tTup t):=by
 intro pins s σ H Q I hq
 refine wpAny_Tuple_spliced (thn (h pos pins s σ H _ I hq) fun us s1 ⟨xs,H1,I1,r,z,q⟩=>⟨by rw[←r.length];exact z,?_⟩)
 have hf:H1 s1.heap.objs.size=none:=I1.hok.fresh (am _)
 refine⟨.ref s1.heap.objs.size,upd H1 s1.heap.objs.size (.tup xs),I1.laid (t':=s1.toks) (fun b u e=>Heap.get?_push_of_some _ e) (am _) ?_,rfl,q _ hf⟩
 exact⟨z,us,r,TupN.new _ _⟩
theorem y5l(h:PA X es t):PE X (.List es pos) (tLst t):=by
 intro pins s σ H Q I hq
 refine wpAny_List_spliced (thn (h pos pins s σ H _ I hq) fun us s1 ⟨xs,H1,I1,r,z,q⟩=>⟨by rw[←r.length];exact z,?_⟩)
 have hf:H1 s1.heap.objs.size=none:=I1.hok.fresh (am _)
 refine⟨.ref s1.heap.objs.size,upd H1 s1.heap.objs.size (.lst xs),I1.laid (t':=s1.toks) (fun b u e=>Heap.get?_push_of_some _ e) (am _) ?_,rfl,q _ hf⟩
 exact⟨z,us,0,r,Heap.get?_push_size _ rfl⟩
end
abbrev Sp:=List V->Hp->VK->XK->Prop
abbrev CXT:=List Env->Hp->Shared->XK->Value->Shared->Prop
structure Env0(P:dw)(w:fE)(K:aa)(mg:Str->Option Value)(base:Heap)(A:Around)(outer:List Env)(s:Shared)(H:Hp):Prop where
 frames:A.frames=some outer
 mod:Mod K mg base
 bs:∀b o,base.get? b=some o->s.heap.get? b=some o∧H b=none
 bsz:base.objs.size≤s.heap.objs.size
 funs:s.heap.FunFrames base outer
 frf:∀b∈frs outer,H b=none
 hok:HOk P w H s.heap
 bare:AllBare s.gens
def CE(outer:List Env)(P:dw)(w:fE)(H:Hp)(s:Shared)(Q:VK)(u:Value)(s':Shared):Prop:=
 ∃v H',s'.os=s.os∧AllBare s'.gens∧Un (frs outer) [] H H' s.heap s'.heap∧HOk P w H' s'.heap∧RelV v u∧Q v H'
def CR(CX:CXT)(outer:List Env)(P:dw)(w:fE)(H:Hp)(s:Shared)(Q:VK)(E:XK)(r:Result)(s':Shared):Prop:=
 match r with
 |.ok (.ret u)=>CE outer P w H s Q u s'
 |.ok _=>False
 |.error e=>CX outer H s E e s'
structure FnOk(P:dw)(w:fE)(K:aa)(mg:Str->Option Value)(base:Heap)(CX:CXT)(k:Nat)(f:Addr)(fd:fF)(ps:List Str)(sp:Sp):Prop where
 len:∀vs H Q E,sp vs H Q E->vs.length=ps.length
 run:∀(A:Around) (outer:List Env) (s:Shared) (H:Hp) (args:Args) (us:List Value) (vs:List V) (Q:VK) (E:XK),Room k A->Env0 P w K mg base A outer s H->BindsTo s fd args (ps.zip us)->Vals vs us->sp vs H Q E →
  codeAny (model P w) A (.call (.ref f) args) (CR CX outer P w H s Q E) s
theorem FnOk.imp{P:dw}{w:fE}{K:aa}{mg:Str->Option Value}{base:Heap}{CX:CXT}{k:Nat}{f:Addr}{fd:fF}{ps:List Str}{sp sp':Sp}(F:FnOk P w K mg base CX k f fd ps sp)
  (h:∀vs H Q E,sp' vs H Q E->sp vs H Q E):FnOk P w K mg base CX k f fd ps sp':=
 ⟨fun vs H Q E q=>F.len vs H Q E (h _ _ _ _ q),fun A outer s H args us vs Q E hr he hb hv hs=>F.run A outer s H args us vs Q E hr he hb hv (h _ _ _ _ hs)⟩
section
variable{X:Cx}{pins:List (Addr×Obj)}{σ:St}{H:Hp}{s s':Shared}
theorem Inv.env0(I:Inv X pins σ H s):Env0 X.prog X.w X.K X.mg X.base X.A X.stack s H:=
 ⟨I.ok.frames,I.ok.mod,I.bs,aG I.ok.bsz I.sz,I.stack,I.stkFree,I.hok,I.bare⟩
theorem Inv.after{Q:VK}{u:Value}(I:Inv X pins σ H s)(h:CE X.stack X.prog X.w H s Q u s'):EP X pins σ Q u s':=by
 obtain⟨v,H',os,bare,un,hok,r,q⟩:=h
 obtain⟨hh,g,d,t,os'⟩:=s'
 obtain rfl:os'=s.os:=os
 exact⟨v,H',I.call (h':=hh) (g':=g) (d':=d) (t':=t) (ch:=[]) un hok bare (fun b z=>absurd z (by simp)),r,q⟩
end
def tCall(sp:Sp)(dvs:List V)(E:XK)(t:TA):TE:=fun σ H Q=>t σ H fun vs H1=>sp (vs++dvs) H1 Q E
def Binds(K:aa)(fd:fF)(ps:List Str)(ds:List Value):Prop:=
 ∀(s:Shared) (us:List Value),K.In s.heap->(us++ds).length=ps.length->BindsTo s fd ⟨us,[]⟩ (ps.zip (us++ds))
theorem Binds.all{K:aa}{fd:fF}{ps:List Str}(h:∀us:List Value,us.length=ps.length->bindArgs fd ⟨us,[]⟩=pure (ps.zip us)):Binds K fd ps []:=fun s us _ hl=>by
 rw[aL]at hl ⊢
 exact .of_eq (h us hl)
def x0h(CX:CXT)(X:Cx)(E:XK):Prop:=∀(pins:List (Addr×Obj)) (σ:St) (H:Hp) (s:Shared) (e:Value) (s':Shared),Inv X pins σ H s->CX X.stack H s E e s'->X.xe e s'
section
variable{X:Cx}{CX:CXT}{k:Nat}{f C:Addr}{fd:fF}{ps:List Str}{sp:Sp}{dvs:List V}{ds:List Value}{E:XK}{x:Str}{p pos:Pos}{e:Expr}{es:List Expr}{t:TA}
theorem run_fn{pins:List (Addr×Obj)}{σ:St}{H:Hp}{s:Shared}{Q:VK}{us:List Value}{vs:List V}(F:FnOk X.prog X.w X.K X.mg X.base CX k f fd ps sp)(hr:Room k X.A)(hb:Binds X.K fd ps ds)(hd:Vals dvs ds)(hx:x0h CX X E)
  (I:Inv X pins σ H s) (r:Vals vs us) (h:sp (vs++dvs) H Q E):wpAny (model X.prog X.w) X.A (call (.ref f) us) (EP X pins σ Q) X.xe s:=by
 have r2:Vals (vs++dvs) (us++ds):=r.append hd
 have hl:(us++ds).length=ps.length:=by rw[←r2.length];exact F.len _ _ _ _ h
 refine wpAny_call (codeAny_mono (F.run X.A X.stack s H ⟨us,[]⟩ (us++ds) (vs++dvs) Q E hr I.env0 (hb s us I.kIn hl) r2 h) fun r s' hq=>?_)
 cases r with
 |error e=>exact hx pins σ H s e s' I hq
 |ok fl=>
  cases fl with
  |ret u=>exact I.after hq
  |next=>exact False.elim hq
  |brk=>exact False.elim hq
  |cont=>exact False.elim hq
theorem pe_call(F:FnOk X.prog X.w X.K X.mg X.base CX k f fd ps sp)(hr:Room k X.A)(hg:Gl X x)(hm:X.mg x=some (.ref f))(hk:bH X.K (.ref f)=true)(hb:Binds X.K fd ps ds)(hd:Vals dvs ds)(hx:x0h CX X E)
  (ha:PA X (e::es) t) (hdb:(x==("__debug__" : Str))=false:=by decide) (he:starEach (e::es) X.env=(false,eval e X.env)::starEach es X.env:=by rfl) (hpl:(fI pos (starEach es X.env)).any (·.1)=false:=by rfl):
  PE X (.Call (.Name x p) (e::es) [] pos) (tCall sp dvs E t):=by
 intro pins s σ H Q I h
 refine wpAny_Call_Name_kw (z7D I hg hm ?_ hdb)
 refine eT (h₀:=X.base) I.ok.mod.kin hk (thn (ha pos pins s σ H _ I h) fun us s1 ⟨vs,H1,I1,r,q⟩=>⟨I1.kIn,?_⟩) he hpl
 exact run_fn F hr hb hd hx I1 r q
structure Mk(K:aa)(C f:Addr):Prop where
 makes:PySem.W.makesIn K C=true
 init:aU K (.ref C) "__init__" = some (some (.ref f))
 fn:PySem.W.isFn K (.ref f)=true
 kp:bH K (.ref C)=true
end
section
variable{fd:fF}{ps ks:List Str}
structure KBinds(K:aa)(fd:fF)(ps ks:List Str)(g:List Value->List Value->List Value)(gV:List V->List V->List V):Prop where
 to:∀(s:Shared) (us ws:List Value),K.In s.heap->(g us ws).length=ps.length->BindsTo s fd ⟨us,ks.zip ws⟩ (ps.zip (g us ws))
 rel:∀{vs:List V} {us:List Value} {zs:List V} {ws:List Value},Vals vs us->Vals zs ws->Vals (gV vs zs) (g us ws)
end
structure FnScope(N P:List Str)(sc:fO):Prop where
 kind:sc.kind = .function
 co:sc.isCoroutine=false
 gen:sc.isGenerator=false
 nd:N.Nodup
 pre:N.take P.length=P
 par:∀x∈P,sc.names.lookup x=some .local∨sc.names.lookup x=some .cell
 nofree:∀y∈sc.names,y.2≠.free
theorem y2f{kindOf:Str->Option NameKind}{x:Str}:∀{binds:List (Str×Value)} {m:Str->Option Value},(∀v,(x,v)∉binds)->bindL kindOf binds m x=m x
 |[],_,_=>rfl
 | (n,v)::r,m,h=>by
  unfold bindL
  rw[y2f fun w hw=>h w (ae _ hw)]
  split
  ·have:x≠n:=by rintro rfl;exact h v af
   simp[this]
  ·rfl
theorem y1K{kindOf:Str->Option NameKind}{x:Str}:∀{binds:List (Str×Value)} {m:Str->Option Value},(∀v,(x,v)∉binds)->bindC kindOf binds m x=m x
 |[],_,_=>rfl
 | (n,v)::r,m,h=>by
  unfold bindC
  rw[y1K fun w hw=>h w (ae _ hw)]
  split
  ·rfl
  ·have:x≠n:=by rintro rfl;exact h v af
   simp[this]
theorem y1s{kindOf:Str->Option NameKind}{x:Str}{v:Value}:∀{P:List Str} {vs:List Value} {i:Nat} {m:Str->Option Value},P.Nodup->P[i]? = some x->vs[i]? = some v->kindOf x=some .local →
  bindL kindOf (P.zip vs) m x=some v
 |[],_,_,_,_,h,_,_=>by simp at h
 |_::_,[],_,_,_,_,h,_=>by simp at h
 |p::P,w::vs,0,m,nd,h1,h2,hk=>by
  simp at h1 h2;subst h1;subst h2
  show bindL kindOf ((p,w)::P.zip vs) m p=_
  unfold bindL
  rw[y2f fun v hv=>(aw.mp nd).1 (dQ hv).1,if_pos hk]
  simp
 |p::P,w::vs,i+1,m,nd,h1,h2,hk=>by
  show bindL kindOf ((p,w)::P.zip vs) m x=_
  unfold bindL
  exact y1s (i:=i) (aw.mp nd).2 (by simpa using h1) (by simpa using h2) hk
theorem y1e{kindOf:Str->Option NameKind}{x:Str}{v:Value}:∀{P:List Str} {vs:List Value} {i:Nat} {m:Str->Option Value},P.Nodup->P[i]? = some x->vs[i]? = some v->kindOf x≠some .local →
  bindC kindOf (P.zip vs) m x=some v
 |[],_,_,_,_,h,_,_=>by simp at h
 |_::_,[],_,_,_,_,h,_=>by simp at h
 |p::P,w::vs,0,m,nd,h1,h2,hk=>by
  simp at h1 h2;subst h1;subst h2
  show bindC kindOf ((p,w)::P.zip vs) m p=_
  unfold bindC
  rw[y1K fun v hv=>(aw.mp nd).1 (dQ hv).1,if_neg hk]
  simp
 |p::P,w::vs,i+1,m,nd,h1,h2,hk=>by
  show bindC kindOf ((p,w)::P.zip vs) m x=_
  unfold bindC
  exact y1e (i:=i) (aw.mp nd).2 (by simpa using h1) (by simpa using h2) hk
def z4A(N:List Str)(vs:List V):St:=vs.map some++ai (N.length - vs.length) none
def y2B(CX:CXT)(P:dw)(w:fE)(K:aa)(mg:Str->Option Value)(base:Heap)(N:List Str)(qual:Str)(scope:fO)(f:Addr)(cd:Value)(A:Around)(outer:List Env)(s:Shared)(H:Hp)(E:XK):Cx where
 prog:=P
 w:=w
 K:=K
 mg:=mg
 base:=base
 A:=A.deeper (envOfC qual scope s.heap.objs.size f cd)
 N:=N
 s₀:=s
 H₀:=H
 env:=envOfC qual scope s.heap.objs.size f cd
 outer:=outer
 stack:=envOfC qual scope s.heap.objs.size f cd::outer
 ex:=[]
 calm:=true
 fn:=fun _=>true
 pn:=[]
 xe:=fun e s'=>wpAny (model P w) (A.deeper (envOfC qual scope s.heap.objs.size f cd)) (leaving (envOfC qual scope s.heap.objs.size f cd) e) (fun _ s''=>CX outer H s E e s'') (fun e' s''=>CX outer H s E e' s'') s'
theorem y5A{sc:fO}{n:Nat}{x:Str}(h:sc.names.lookup x=some .cell):∃c,(cellsFrom n sc.names []).lookup x=some c:=by
 have q:=eG sc.names n [] (.inl h)
 exact bN.mp q
theorem x0U{CX:CXT}{P:dw}{w:fE}{K:aa}{mg:Str->Option Value}{base:Heap}{N ps:List Str}{qual:Str}{scope:fO}{f:Addr}{cd:Value}{A:Around}{outer:List Env}{s s1:Shared}{H:Hp}{E:XK}{us:List Value}{vs:List V}
  (S:FnScope N ps scope) (hd:A.handled=none) (e0:Env0 P w K mg base A outer s H) (hl:vs.length=ps.length) (r:Vals vs us)
  (x:InCallC s s.heap.objs.size (bindL (envOfC qual scope s.heap.objs.size f cd).kindOf (ps.zip us) fun _=>none) (cellsFrom (s.heap.objs.size+1) scope.names []) (bindC (envOfC qual scope s.heap.objs.size f cd).kindOf (ps.zip us) fun _=>none) s1):
  Inv (y2B CX P w K mg base N qual scope f cd A outer s H E) [] (z4A N vs) H s1:=by
 have hpl:ps.length≤N.length:=by have:=congrArg List.length S.pre;rw[dJ]at this;omega
 obtain⟨h1,tk,rfl,hk⟩:=x.done
 have noA:∀b:Addr,b∉(y2B CX P w K mg base N qual scope f cd A outer s H E).ex:=fun b z=>absurd (show b∈([]:List Addr) from z) (by simp)
 refine⟨⟨e0.mod,S.kind,rfl,rfl,am _,fun y z c h1 h2=>?_,fun y hy=>?_,fun y c _ h=>?_,fun _=>hd,Around.frames_deeper e0.frames,.inr ⟨rfl,rfl⟩,fun b z=>absurd z (noA b),e0.bs,e0.bsz,fun b _ _=>noA b,fun b z=>absurd z (noA b),e0.funs,e0.frf⟩,
  rfl,e0.bare,Un.kept hk,⟨_,x.toInCall.ns,fun i y v h1 h2 h3=>?_⟩,fun y c h=>⟨_,x.cell y c h⟩,e0.hok.fresh (am _),fun y c h=>?_,fun p hp=>absurd (show p∈([]:List (Addr×Obj)) from hp) (by simp),e0.hok.kept hk,?_⟩
 ·exact name_of_addr x.apart (PySem.mem_of_lookup h1) (PySem.mem_of_lookup h2)
 ·have hy:scope.names.lookup y=some .cell∨scope.names.lookup y=some .free:=hy
  rcases hy with hy | hy
  ·exact y5A hy
  ·exact absurd rfl (S.nofree _ (PySem.mem_of_lookup hy))
 ·exact cM (x.above y c (PySem.mem_of_lookup h))
 ·have hi:i<vs.length:=by
   unfold z4A at h2
   by_cases hi:i<vs.length
   ·exact hi
   ·rw[bg (by simpa using hi)]at h2
    rw[bA]at h2
    split at h2 <;> cases h2
  have ha:vs[i]? = some v:=by
   unfold z4A at h2
   rw[ba (by simpa using hi),ay]at h2
   cases e:vs[i]? with
   |none=>rw[e]at h2;cases h2
   |some a=>rw[e]at h2;cases h2;rfl
  obtain⟨u,hu,rv⟩:=r.get ha
  have hp:ps[i]? = some y:=by
   rw[←S.pre,List.getElem?_take_of_lt (by omega)];exact h1
  have ndP:ps.Nodup:=by rw[←S.pre];exact S.nd.sublist (List.take_sublist _ _)
  refine⟨u,rv,?_⟩
  rcases S.par y (c8 hp)with k | k
  ·exact .inl ⟨k,y1s ndP hp hu k⟩
  ·obtain⟨c,e⟩:=y5A (n:=s.heap.objs.size+1) k
   refine .inr ⟨.inl k,c,e,?_⟩
   have q:=x.cell y c e
   rw[y1e ndP hp hu (by show scope.names.lookup y≠_;rw[k];decide)]at q
   exact q
 ·exact e0.hok.fresh (cM (x.above y c (PySem.mem_of_lookup h)))
 ·unfold z4A
  show _=N.length
  rw[aD,ah,c6]
  omega
theorem fn_of{CX:CXT}{P:dw}{w:fE}{K:aa}{mg:Str->Option Value}{base:Heap}{k:Nat}{f:Addr}{name qual:Str}{params:Arguments}{body:List Stmt}{scope:fO}{dV kV doc pm cdv ct oc:Value}{an od:Option Addr}
  {osl:Array (Option Value)} {N ps:List Str} {sp:Sp} (lk:K.lookup f=some ⟨oc,od,.func (bv name qual params body scope dV kV doc pm an cdv ct),osl⟩) (hcd:c3 K cdv qual=true) (S:FnScope N ps scope)
  (len:∀vs H Q E,sp vs H Q E->vs.length=ps.length)
  (hbody:∀(A:Around) (outer:List Env) (s:Shared) (H:Hp) (vs:List V) (Q:VK) (E:XK),Room k (A.deeper (envOfC qual scope s.heap.objs.size f cdv))->sp vs H Q E →
   ∃t,PSs (y2B CX P w K mg base N qual scope f cdv A outer s H E) body t∧t { nx:=fun _ H'=>Q .non H',rt:=Q } (z4A N vs) H):
  FnOk P w K mg base CX (k+1) f (bv name qual params body scope dV kV doc pm an cdv ct) ps sp:=by
 refine⟨len,fun A outer s H args us vs Q E hr e0 hb r hsp=>?_⟩
 have hl:=len _ _ _ _ hsp
 have KX:K.In s.heap:=e0.mod.kin.keeps fun b o e=>(e0.bs b o e).1
 have lim:s.heap.NoLimit:=e0.mod.nolimit.keeps fun b o e=>(e0.bs b o e).1
 have hkind:∀y∈ps.zip us,scope.names.lookup y.1=some .local∨(scope.names.lookup y.1=some .cell∧((cellsFrom (s.heap.objs.size+1) scope.names []).lookup y.1).isSome=true):=fun⟨n,v⟩ hy=>by
  rcases S.par n (dQ hy).1 with q | q
  ·exact .inl q
  ·exact .inr ⟨q,eG _ _ _ (.inl q)⟩
 refine codeAny_call_function hr.depth (KX _ _ lk) rfl S.co S.gen rfl (PySem.W.codeRec_of KX hcd) (hb _ _ _ _ ?_)
 refine wpAny_newFunctionEnv_cells S.kind hkind fun env he s1 x=>?_
 subst he
 refine⟨lim.keeps x.toInCall.keep,codeAny_func ?_⟩
 obtain⟨t,ht,hq⟩:=hbody A outer s H vs Q E (hr.deeper _) hsp
 have I:Inv (y2B CX P w K mg base N qual scope f cdv A outer s H E) [] (z4A N vs) H s1:=x0U S hr.hd e0 hl r x
 refine wpAny_mono (ht [] s1 (z4A N vs) H _ I hq) (fun fl s' hs=>?_) fun e s' hs=>hs
 have fin:∀{σ':St} {H':Hp} {v:V} {u:Value},Inv (y2B CX P w K mg base N qual scope f cdv A outer s H E) [] σ' H' s'->RelV v u->Q v H'->CE outer P w H s Q u s':=
  fun {σ' H' v u} J rv q=>⟨v,H',J.os,J.bare,J.base,J.hok,rv,q⟩
 cases fl with
 |ret u=>
  obtain⟨v,σ',H',J,rv,q⟩:=hs
  exact fin J rv q
 |next=>
  obtain⟨σ',H',J,q⟩:=hs
  exact fin (v:=V.non) (u:=Value.none) J rfl q
 |brk=>
  obtain⟨_,_,_,q⟩:=hs
  exact False.elim q
 |cont=>
  obtain⟨_,_,_,q⟩:=hs
  exact False.elim q
section
variable{X:Cx}{x:Str}{p pos:Pos}{e:Expr}{es:List Expr}{t:TA}{id T:String}{r:List V->Hp->VK->Prop}
def tCB(r:List V->Hp->VK->Prop)(t:TA):TE:=fun σ H Q=>t σ H fun vs H1=>r vs H1 Q
theorem z7a(hc:z3w X (.builtin id) r)(hg:Gl X x)(hm:X.mg x=none)(hv:fL x=some (.builtin id))(ha:PA X (e::es) t)(hn:x ≠ "__name__" := by decide)(hdb:(x==("__debug__" : Str))=false:=by decide)
  (he:starEach (e::es) X.env=(false,eval e X.env)::starEach es X.env:=by rfl) (hpl:(fI pos (starEach es X.env)).any (·.1)=false:=by rfl):PE X (.Call (.Name x p) (e::es) [] pos) (tCB r t):=by
 intro pins s σ H Q I h
 refine wpAny_Call_Name_kw (z5D I hg hm hv ?_ hn hdb)
 exact PyProof.Rows.callWith_builtin1 (thn (ha pos pins s σ H _ I h) fun us s1 ⟨vs,H1,I1,r1,q1⟩=>hc pins s1 σ H1 vs us Q I1 r1 q1) he hpl
theorem z5v(hc:z3w X (.type T) r)(hg:Gl X x)(hm:X.mg x=none)(hv:fL x=some (.type T))(ha:PA X (e::es) t)(hn:x ≠ "__name__" := by decide)(hdb:(x==("__debug__" : Str))=false:=by decide)
  (he:starEach (e::es) X.env=(false,eval e X.env)::starEach es X.env:=by rfl) (hpl:(fI pos (starEach es X.env)).any (·.1)=false:=by rfl):PE X (.Call (.Name x p) (e::es) [] pos) (tCB r t):=by
 intro pins s σ H Q I h
 refine wpAny_Call_Name_kw (z5D I hg hm hv ?_ hn hdb)
 exact PyProof.Rows.callWith_type1 (thn (ha pos pins s σ H _ I h) fun us s1 ⟨vs,H1,I1,r1,q1⟩=>hc pins s1 σ H1 vs us Q I1 r1 q1) he hpl
end
end L2
namespace HT
open PySem PyProof.Rows
section
open PySem.SeqAt
open PySem.AutoSeq1 (wpAny_loadPart')
open PySem.MeetsSeq PySem.MeetsSeq2 PySem.MeetsSeq3
end
section
variable{prog:dw}{w:fE}{A:Around}{E:Value->Shared->Prop}{s:Shared}
def sIx(n d:Nat):Option Int->Nat
 |none=>d
 |some v=>if v<0 then(v+(n:Int)).toNat else min v.toNat n
theorem sIx_le(n d:Nat)(hd:d≤n)(o:Option Int):sIx n d o≤n:=by
 cases o with
 |none=>exact hd
 |some v=>
  show(if v<0 then(v+(n:Int)).toNat else min v.toNat n)≤n
  by_cases hv:v<0
  ·rw[if_pos hv];omega
  ·rw[if_neg hv];exact Nat.min_le_right _ _
theorem x1c(v:Int)(n d:Nat):(if v<0 then max (v+(n:Int)) 0 else min v (n:Int))=((sIx n d (some v):Nat):Int):=by
 show(if v<0 then max (v+(n:Int)) 0 else min v (n:Int))=(((if v<0 then(v+(n:Int)).toNat else min v.toNat n):Nat):Int)
 by_cases hv:v<0
 ·simp only[if_pos hv];omega
 ·simp only[if_neg hv];omega
theorem y6n(lo hi:Option Int)(n:Nat):Builtin.Slice.sliceAdjust lo hi 1 (n:Int)=(((sIx n 0 lo:Nat):Int),((sIx n n hi:Nat):Int)):=by
 have h1:¬ ((1:Int)<0):=by omega
 unfold Builtin.Slice.sliceAdjust
 simp only[h1,if_false]
 refine Prod.ext ?_ ?_
 ·cases lo with
  |none=>rfl
  |some v=>exact x1c v n 0
 ·cases hi with
  |none=>rfl
  |some v=>exact x1c v n n
theorem y6p(i j:Nat):Builtin.Slice.slicePlaces (i:Int) (j:Int) 1=j - i:=by
 unfold Builtin.Slice.slicePlaces
 have h1:(1:Int)>0:=by omega
 simp only[h1,if_true,Int.ediv_one]
 split <;> omega
theorem z8Y{v:Value}{o:Option Int}{Q:Option Int->Shared->Prop}(p:IsPart v o)(h:Q o s):wpAny (model prog w) A (Builtin.Slice.slicePartIndex v) Q E s:=by
 cases p with
 |none=>exact slicePart_none h
 |int i t=>exact slicePart_int h
theorem z3L{sl:Addr}{vl vu:Value}{lo hi:Option Int}{n:Nat}{Q:Int×Int×Nat->Shared->Prop}(hs:s.heap.IsSliceOf sl vl vu .none)(pl:IsPart vl lo)(pu:IsPart vu hi)
  (h:Q (((sIx n 0 lo:Nat):Int),1,sIx n n hi - sIx n 0 lo) s):wpAny (model prog w) A (Builtin.Slice.sliceApplied (.ref sl) (pure (n:Int))) Q E s:=by
 obtain⟨os,hos,hcs,hds⟩:=id hs
 unfold Builtin.Slice.sliceApplied Builtin.Slice.sliceFields
 refine wpAny_bind (wpAny_bind (wpAny_field hos hds (x:=vl) rfl (wpAny_bind (wpAny_field hos hds (x:=vu) rfl (wpAny_bind (wpAny_field hos hds (x:=.none) rfl (wpAny_pure ?_)))))))
 refine wpAny_bind (slicePart_none ?_)
 show wpAny _ _ (if((1:Int)==0)=true then _ else _) _ _ s
 rw[if_neg (by decide)]
 refine wpAny_bind (z8Y pl (wpAny_bind (z8Y pu (wpAny_bind (wpAny_pure ?_)))))
 show wpAny _ _ (match Builtin.Slice.sliceAdjust lo hi 1 (n:Int)with | (lo,hi)=>pure (lo,(1:Int),Builtin.Slice.slicePlaces lo hi 1)) _ _ s
 rw[y6n lo hi n]
 show wpAny _ _ (pure (((sIx n 0 lo:Nat):Int),(1:Int),Builtin.Slice.slicePlaces ((sIx n 0 lo:Nat):Int) ((sIx n n hi:Nat):Int) 1)) _ _ s
 rw[y6p]
 exact wpAny_pure h
theorem x2z(xs:Array Value)(i k:Nat):((ad k).filterMap fun(m:Nat)=>xs[((i:Int)+(m:Int)*1).toNat]?).toArray=((xs.toList.drop i).take k).toArray:=by
 have e:(fun(m:Nat)=>xs[((i:Int)+(m:Int)*1).toNat]?)=fun m=>xs[i+m]?:=by
  funext m
  have:((i:Int)+(m:Int)*1).toNat=i+m:=by omega
  rw[this]
 rw[e]
 have:=pick_run xs i k
 rw[List.filterMap_map]at this
 have e2:((fun x=>xs[x]?)∘fun x=>i+x)=fun m=>xs[i+m]?:=rfl
 rw[e2]at this
 rw[this]
theorem getItem_tuple_cut{t sl:Addr}{items:Array Value}{vl vu:Value}{lo hi:Option Int}{Q:Value->Shared->Prop}(ht:IsTup s.heap t items)(hs:s.heap.IsSliceOf sl vl vu .none)(pl:IsPart vl lo)(pu:IsPart vu hi)
  (hw:¬ (sIx items.size 0 lo=0∧sIx items.size items.size hi=items.size))
  (h:Q (.ref s.heap.objs.size) { s with heap:=s.heap.push { cls:=.type "tuple",data:=.seq ((items.toList.drop (sIx items.size 0 lo)).take (sIx items.size items.size hi - sIx items.size 0 lo)).toArray } })
  (hsz:items.size≤sizeLine):wpAny (model prog w) A (getItem (.ref t) (.ref sl)) Q E s:=by
 have htake:sizeOk (.seq ((items.toList.drop (sIx items.size 0 lo)).take (sIx items.size items.size hi - sIx items.size 0 lo)).toArray):=by
  show((items.toList.drop (sIx items.size 0 lo)).take (sIx items.size items.size hi - sIx items.size 0 lo)).toArray.size≤sizeLine
  rw[av,dJ,dL,bE]
  omega
 have hj:sIx items.size items.size hi≤items.size:=sIx_le _ _ (am _) hi
 obtain⟨os,hos,hcs,hds⟩:=id hs
 have hTs:s.TypeIs (.ref sl) "slice" := ⟨os,hos,hcs⟩
 unfold getItem
 try with_reducible refine wpAny_holding ?_
 first | refine wpAny_bind (wpAny_pure ?_) | skip
 refine wpAny_bind (wpAny_sequenceKey ht.typeIs (by decide) ?_)
 refine wpAny_bind (wpAny_callSpecial?_slot (name:=Str.ofString "__getitem__") ht.typeIs PyProof.Rows.slot_tuple_getitem
  (wpAny_call_entry PyProof.Rows.slot_tuple_getitem ht.typeIs entry_tuple_getitem ?_ (args_tuple_getitem _ _)))
 show wpAny _ _ (Builtin.Tuple.tupleItemsOf (.ref t) >>= _) _ _ s
 refine wpAny_bind (tupleItemsOf_ ht ?_)
 refine wpAny_bind (wpAny_typeOf hTs ?_)
 rw[if_pos (by decide)]
 refine wpAny_bind (z3L hs pl pu ?_)
 have hno:¬ ((((sIx items.size 0 lo:Nat):Int)==0&&(1:Int)==1&&(sIx items.size items.size hi - sIx items.size 0 lo)==items.size)=true):=by
  intro q
  rw[aE,aE]at q
  have q1:((sIx items.size 0 lo:Nat):Int)=0:=eq_of_beq q.1.1
  have q2:sIx items.size items.size hi - sIx items.size 0 lo=items.size:=eq_of_beq q.2
  exact hw ⟨by omega,by omega⟩
 show wpAny _ _ (if(((sIx items.size 0 lo:Nat):Int)==0&&(1:Int)==1&&(sIx items.size items.size hi - sIx items.size 0 lo)==items.size)=true then _ else _) _ _ s
 rw[if_neg hno,x2z]
 first
  |exact wpAny_bind (m:=Builtin.Tuple.tupleExact _) (wpAny_newObj_type (wpAny_pure ⟨_,rfl,wpAny_pure h⟩) htake)
  |exact wpAny_bind (m:=Builtin.Tuple.tupleExact _) (wpAny_newObj_type (wpAny_bind (wpAny_pure (wpAny_pure ⟨_,rfl,wpAny_pure h⟩))) htake)
  |exact wpAny_bind (wpAny_bind (m:=Builtin.Tuple.tupleExact _) (wpAny_newObj_type (wpAny_pure (wpAny_pure ⟨_,rfl,wpAny_pure h⟩)) htake))
  |exact wpAny_bind (wpAny_bind (m:=Builtin.Tuple.tupleExact _) (wpAny_newObj_type (wpAny_pure ⟨_,rfl,wpAny_pure h⟩) htake))
end
end HT
namespace L2
open PySem PySem.Spec PyProof.Rows
abbrev TO:=St->Hp->(Option Int->Hp->Prop)->Prop
def PO(X:Cx)(e:Option Expr)(t:TO):Prop:=
 ∀(pins:List (Addr×Obj)) (s:Shared) (σ:St) (H:Hp) (Q:Option Int->Hp->Prop),Inv X pins σ H s->t σ H Q →
  wpAny (model X.prog X.w) X.A (evalPart e X.env) (fun u s'=>∃o H',Inv X pins σ H' s'∧IsPart u o∧Q o H') X.xe s
def tNoPart:TO:=fun _ H Q=>Q none H
def tPart(t:TE):TO:=fun σ H Q=>t σ H fun x H1=>∃i,x = .int i∧Q (some i) H1
theorem z6j{ns:List Int}:∀{us:List Value},Vals (ns.map V.int) us->IntsAre us ns:=by
 induction ns with
 |nil=>intro us r;rw[cJ]at r;cases r;exact .nil
 |cons n ns ih=>
  intro us r
  rw[aC]at r
  cases r with
  |cons r1 r2=>
   obtain⟨t,e⟩:=r1
   subst e
   exact .cons n t (ih r2)
section
variable{X:Cx}{e:Expr}{te:TE}{lo hi:Option Expr}{tl th:TO}{pos p2:Pos}
theorem po_none:PO X none tNoPart:=by
 intro pins s σ H Q I h
 rw[evalPart_none]
 exact wpAny_pure ⟨none,H,I,.none,h⟩
theorem y8q(h:PE X e te):PO X (some e) (tPart te):=by
 intro pins s σ H Q I hw
 rw[evalPart_some]
 refine thn (h pins s σ H _ I hw) fun u s1 ⟨x,H1,I1,r1,q1⟩=>?_
 obtain⟨i,rfl,q⟩:=q1
 obtain⟨t,rfl⟩:=r1
 exact⟨some i,H1,I1,.int i t,q⟩
def SlR(X:Cx)(r:V->Option Int->Option Int->Hp->VK->Prop):Prop:=
 ∀(pins:List (Addr×Obj)) (s:Shared) (σ:St) (H:Hp) (x:V) (v vl vu:Value) (lo hi:Option Int) (sl:Addr) (Q:VK),Inv X pins σ H s->RelV x v->s.heap.IsSliceOf sl vl vu .none->IsPart vl lo->IsPart vu hi->r x lo hi H Q →
  ∃T id,typeLookup (.type T) "__getitem__" = pure (some (.builtin id))∧s.TypeIs v T∧wpAny (model X.prog X.w) X.A (getItem v (.ref sl)) (EP X pins σ Q) X.xe s
def tSl(r:V->Option Int->Option Int->Hp->VK->Prop)(te:TE)(tl th:TO):TE:=fun σ H Q=>te σ H fun x H1=>tl σ H1 fun l H2=>th σ H2 fun u H3=>r x l u H3 Q
theorem y5f{r:V->Option Int->Option Int->Hp->VK->Prop}(hr:SlR X r)(he:PE X e te)(hl:PO X lo tl)(hu:PO X hi th):PE X (.Subscript e (.Slice lo hi none p2) pos) (tSl r te tl th):=by
 intro pins s σ H Q I h
 refine Subscript_ (thn (he pins s σ H _ I h) fun v s1 ⟨x,H1,I1,r1,q1⟩=>?_)
 refine wpAny_Slice (thn (hl pins s1 σ H1 _ I1 q1) fun vl s2 ⟨l,H2,I2,pl,q2⟩=>thn (hu pins s2 σ H2 _ I2 q2) fun vu s3 ⟨u,H3,I3,pu,q3⟩=>?_)
 rw[evalPart_none]
 refine wpAny_pure ?_
 have I4:Inv X pins σ H3 { s3 with heap:=s3.heap.push { cls:=.type "slice",data:=.fields #[vl,vu,.none] } }:=I3.kept (t':=s3.toks) fun b ob q=>Heap.get?_push_of_some _ q
 obtain⟨T,id,hT,ht,hg⟩:=hr pins { s3 with heap:=s3.heap.push { cls:=.type "slice",data:=.fields #[vl,vu,.none] } } σ H3 x v vl vu l u s3.heap.objs.size Q I4 r1 (Heap.IsSliceOf.new ..) pl pu q3
 show wpAny (model X.prog X.w) X.A (subscriptTail e (.Slice lo hi none p2) v (.ref s3.heap.objs.size)) (EP X pins σ Q) X.xe { s3 with heap:=s3.heap.push { cls:=.type "slice",data:=.fields #[vl,vu,.none] } }
 exact tail_any (ops:=[.ref s3.heap.objs.size,v]) ht hT hg (by with_unfolding_all rfl)
def y6Z(xs:List V)(lo hi:Option Int):List V:=(xs.drop (HT.sIx xs.length 0 lo)).take (HT.sIx xs.length xs.length hi - HT.sIx xs.length 0 lo)
theorem z7Z(xs:List V)(lo hi:Option Int):(y6Z xs lo hi).length≤xs.length:=by
 unfold y6Z
 rw[dJ,dL]
 omega
end
def ixN(n:Nat)(i:Int):Option Nat:=if 0≤i then(if i<n then some i.toNat else none)else if -(n:Int)≤i then some (i+n).toNat else none
def atI{α:Type}(xs:List α)(i:Int):Option α:=(ixN xs.length i).bind fun j=>xs[j]?
theorem y3E{n:Nat}{i:Int}{j:Nat}(h:ixN n i=some j):seqIndex? i n=some j∧j<n∧-(n:Int)≤i∧i<n:=by
 unfold ixN at h
 by_cases h0:0≤i
 ·rw[if_pos h0]at h
  by_cases h1:i<n
  ·rw[if_pos h1]at h
   have e:i.toNat=j:=Option.some.inj h
   exact⟨by rw[seqIndex_of h0 h1,e],by omega,by omega,h1⟩
  ·rw[if_neg h1]at h;cases h
 ·rw[if_neg h0]at h
  by_cases h1:-(n:Int)≤i
  ·rw[if_pos h1]at h
   have e:(i+n).toNat=j:=Option.some.inj h
   exact⟨by rw[seqIndex_neg (by omega) h1,e],by omega,h1,by omega⟩
  ·rw[if_neg h1]at h;cases h
theorem y2J{α:Type}{xs:List α}{i:Int}{v:α}(h:atI xs i=some v):∃j,seqIndex? i xs.length=some j∧xs[j]? = some v∧j<xs.length∧-(xs.length:Int)≤i∧i<xs.length:=by
 unfold atI at h
 cases e:ixN xs.length i with
 |none=>rw[e]at h;cases h
 |some j=>
  rw[e]at h
  obtain⟨h1,h2,h3,h4⟩:=y3E e
  exact⟨j,h1,h,h2,h3,h4⟩
theorem z1u{α:Type}{xs:List α}{j:Nat}{v:α}(h:xs[j]? = some v):atI xs (j:Int)=some v:=by
 have hj:j<xs.length:=(aO.mp h).1
 have e:ixN xs.length (j:Int)=some j:=by
  unfold ixN
  rw[if_pos (by omega),if_pos (by omega)];simp
 unfold atI;rw[e];exact h
def z8e(b:Expr):Prop:=∀o i,subscripted b false o i=operate [o,i] (getItem o i)
def IxR(X:Cx)(r:R2):Prop:=
 ∀(value slice:Expr) (pins:List (Addr×Obj)) (s:Shared) (σ:St) (H:Hp) (x y:V) (v u:Value) (Q:VK),Inv X pins σ H s->RelV x v->RelV y u->r x y H Q →
  subscripted slice false v u=operate [v,u] (getItem v u)->wpAny (model X.prog X.w) X.A (subscriptTail value slice v u) (EP X pins σ Q) X.xe s
def MtR(X:Cx)(id:String)(r:V->List V->Hp->VK->Prop):Prop:=
 ∀(pins:List (Addr×Obj)) (s:Shared) (σ:St) (H:Hp) (x:V) (xs:List V) (v:Value) (us:List Value) (Q:VK),Inv X pins σ H s->RelV x v->Vals xs us->r x xs H Q →
  wpAny (model X.prog X.w) X.A (call (.builtin id) (v::us)) (EP X pins σ Q) X.xe s
section
variable{X:Cx}{a b:Expr}{ta tb:TE}{pos:Pos}
theorem IxR.or{r r':R2}(h:IxR X r)(h':IxR X r'):IxR X (fun x y H Q=>r x y H Q∨r' x y H Q):=by
 intro value slice pins s σ H x y v u Q I rx ry q hs
 rcases q with q | q
 ·exact h value slice pins s σ H x y v u Q I rx ry q hs
 ·exact h' value slice pins s σ H x y v u Q I rx ry q hs
theorem x2I{r:R2}(hr:IxR X r)(ha:PE X a ta)(hb:PE X b tb)(hs:z8e b):PE X (.Subscript a b pos) (tOp r ta tb):=by
 intro pins s σ H Q I h
 exact Subscript_ (binT ha hb I h fun v u s2 x y H2 I2 rx ry q=>hr a b pins s2 σ H2 x y v u Q I2 rx ry q (hs _ _))
def rIxL(K:aa):R2:=fun x y H Q=>∃p xs i v,x = .ref p∧y = .int i∧SqL K H p xs∧atI xs i=some v∧Q v H
def rIxT(K:aa):R2:=fun x y H Q=>∃p xs i v,x = .ref p∧y = .int i∧SqT K H p xs∧atI xs i=some v∧Q v H
def rIxS:R2:=fun x y H Q=>∃z i c,x = .str z∧y = .int i∧z.length≤sizeLine∧atI z.cps.toList i=some c∧Q (.str ⟨#[c]⟩) H
theorem ix_list:IxR X (rIxL X.K):=by
 intro value slice pins s σ H x y v u Q I rx ry h hs
 obtain⟨p,xs,i,z,rfl,rfl,hq,he,q⟩:=h
 cases rx
 obtain⟨t,rfl⟩:=ry
 obtain⟨its,r,pl,hz⟩:=I.list hq
 obtain⟨j,h1,h2,h3,h4,h5⟩:=y2J he
 obtain⟨w,ew,rw'⟩:=r.get h2
 have hl:=r.length
 have hn:=z9e
 have fin:EP X pins σ Q w s:=⟨z,H,I,rw',q⟩
 by_cases h0:0≤i
 ·have hj:i.toNat=j:=by
   rw[seqIndex_of h0 h5]at h1
   exact Option.some.inj h1
  exact item_listR pl.isList h0 (by omega) (by rw[hj];simpa using ew) fin hs
 ·have hj:(i+(its.toArray.size:Int)).toNat=j:=by
   rw[seqIndex_neg (by omega) h4]at h1
   rw[av,←hl]
   exact Option.some.inj h1
  exact subscriptTail_builtinR (x:=w) pl.isList.typeIs slot_list_getitem.lookup
   (wpAny_getItem_list_neg (Q:=fun r s'=>r=w∧EP X pins σ Q r s') pl.isList (by omega) (by rw[av] <;> omega) (by omega) (by rw[hj];simpa using ew) ⟨rfl,fin⟩) hs
theorem ix_tup:IxR X (rIxT X.K):=by
 intro value slice pins s σ H x y v u Q I rx ry h hs
 obtain⟨p,xs,i,z,rfl,rfl,hq,he,q⟩:=h
 cases rx
 obtain⟨t,rfl⟩:=ry
 obtain⟨its,r,pl,hz⟩:=I.tuple hq
 obtain⟨j,h1,h2,h3,h4,h5⟩:=y2J he
 obtain⟨w,ew,rw'⟩:=r.get h2
 have hl:=r.length
 have hn:=z9e
 have fin:EP X pins σ Q w s:=⟨z,H,I,rw',q⟩
 exact subscriptTail_builtinR (x:=w) pl.typeIs slot_tuple_getitem.lookup
  (getItem_tuple (j:=j) (Q:=fun r s'=>r=w∧EP X pins σ Q r s') pl (by omega) (by omega) (by rw[av,←hl];exact h1) (by simpa using ew) ⟨rfl,fin⟩) hs
theorem ix_str:IxR X rIxS:=by
 intro value slice pins s σ H x y v u Q I rx ry h hs
 obtain⟨z,i,c,rfl,rfl,hz,he,q⟩:=h
 obtain⟨t,rfl⟩:=rx
 obtain⟨t',rfl⟩:=ry
 obtain⟨j,h1,h2,h3,h4,h5⟩:=y2J he
 have hl:z.cps.toList.length=z.length:=by simp[Str.length]
 rw[hl]at h1 h4 h5
 have hn:=z9e
 exact tail_any (typeIs_str s z t) slot_str_getitem.lookup (getItem_str (c:=c) (by
  have e1:decide (i < -(2 ^ 63:Int))=false:=decide_eq_false (by omega)
  have e2:decide (i ≥ 2 ^ 63)=false:=decide_eq_false (by omega)
  rw[e1,e2,Bool.or_false]) (by rw[h1];simpa using h2) ⟨.str ⟨#[c]⟩,H,I.tok _,⟨_,rfl⟩,q⟩) hs
def rIx(K:aa):R2:=fun x y H Q=>rIxL K x y H Q∨rIxT K x y H Q∨rIxS x y H Q
theorem x4W:IxR X (rIx X.K):=ix_list.or (ix_tup.or ix_str)
theorem y6f(its:List Value)(n j:Nat)(u:Value):Obj.mapSeq (·.setIfInBounds j u) { cls:=.type "list",data:=.seq its.toArray n } = { cls:=.type "list",data:=.seq (its.set j u).toArray n }:=by
 simp[Obj.mapSeq]
theorem Inv.lst{pins:List (Addr×Obj)}{σ:St}{H:Hp}{s:Shared}{p:Addr}{xs:List V}(I:Inv X pins σ H s)(h:H p=some (.lst xs)):
  ∃(its:List Value) (n:Nat),Vals xs its∧s.heap.get? p=some { cls:=.type "list",data:=.seq its.toArray n }∧xs.length≤sizeLine:=by
 obtain⟨z,its,n,r,e⟩:=I.hok p _ h
 exact⟨its,n,r,e,z⟩
theorem Inv.lstUpd{pins:List (Addr×Obj)}{σ:St}{H:Hp}{s:Shared}{p:Addr}{xs ys:List V}{its its':List Value}{n n':Nat}{f:Obj->Obj}(I:Inv X pins σ H s)(h:H p=some (.lst xs))
  (ho:s.heap.get? p=some { cls:=.type "list",data:=.seq its.toArray n }) (hf:f { cls:=.type "list",data:=.seq its.toArray n } = { cls:=.type "list",data:=.seq its'.toArray n' }) (r:Vals ys its') (hz:ys.length≤sizeLine) (t:Nat):
  Inv X pins σ (upd H p (.lst ys)) { s with heap:=s.heap.update p f,toks:=t }:=by
 have e:(s.heap.update p f).get? p=some { cls:=.type "list",data:=.seq its'.toArray n' }:=by
  rw[Heap.get?_update_self f ho (by rw[hf] <;> rfl),hf]
 refine I.write (x:=p) (e:=p) (by rw[h];trivial) (.inl rfl) (fun b u hb q=>(Heap.get?_update_other _ _ (Ne.symm hb)).trans q) ⟨_,e⟩ ?_
 exact⟨hz,its',n',r,e⟩
def rSetL:V->V->V->Hp->(Hp->Prop)->Prop:=fun o i v H Q=>∃p xs k j,o = .ref p∧i = .int k∧H p=some (.lst xs)∧ixN xs.length k=some j∧Q (upd H p (.lst (xs.set j v)))
theorem y4V:PSet X rSetL:=by
 intro pins s σ H o i v ov iv u Q I ro ri rv h
 obtain⟨p,xs,k,j,rfl,rfl,hp,hj,q⟩:=h
 cases ro
 obtain⟨t,rfl⟩:=ri
 obtain⟨its,n,r,ho,hz⟩:=I.lst hp
 obtain⟨h1,h2,h3,h4⟩:=y3E hj
 have hl:=r.length
 have hn:=z9e
 have I':Inv X pins σ (upd H p (.lst (xs.set j v))) { s with heap:=s.heap.update p (Obj.mapSeq (·.setIfInBounds j u)) }:=
  I.lstUpd hp ho (y6f its n j u) (r.set rv j) (by rw[bY];exact hz) s.toks
 by_cases h0:0≤k
 ·have hk:k.toNat=j:=by
   rw[seqIndex_of h0 h4]at h1
   exact Option.some.inj h1
  exact PySem.W.ki_setAt ho h0 (by omega) (by rw[av,←hl];exact h4) (by rw[hk];exact⟨_,I',q⟩)
 ·have hk:(k+(its.toArray.size:Int)).toNat=j:=by
   rw[seqIndex_neg (by omega) h3]at h1
   rw[av,←hl]
   exact Option.some.inj h1
  exact PySem.W.ki_setBack ho (by omega) (by rw[av,←hl];exact h3) (by omega) (by rw[hk];exact⟨_,I',q⟩)
theorem y2D(lo hi:Option Int)(n:Nat):(sliceBounds lo hi none n).1=((HT.sIx n 0 lo:Nat):Int)∧(sliceBounds lo hi none n).2.1=((HT.sIx n n hi:Nat):Int)∧(sliceBounds lo hi none n).2.2=1:=by
 refine⟨?_,?_,rfl⟩
 ·cases lo with
  |none=>simp[sliceBounds,HT.sIx]
  |some i=>
   simp only[sliceBounds,HT.sIx,fx,show(1:Int)>0 by decide,if_true]
   by_cases h:i<0
   ·simp only[h,if_true] <;> omega
   ·simp only[h,if_false] <;> omega
 ·cases hi with
  |none=>simp[sliceBounds,HT.sIx]
  |some i=>
   simp only[sliceBounds,HT.sIx,fx,show(1:Int)>0 by decide,if_true]
   by_cases h:i<0
   ·simp only[h,if_true] <;> omega
   ·simp only[h,if_false] <;> omega
theorem z9X(its:List Value)(lo hi:Option Int):slicePick its.toArray lo hi none=((its.drop (HT.sIx its.length 0 lo)).take (HT.sIx its.length its.length hi - HT.sIx its.length 0 lo)).toArray:=by
 obtain⟨h1,h2,h3⟩:=y2D lo hi its.toArray.size
 unfold slicePick
 rw[h1,h2,h3]
 simp only[sliceRange_one,pick_run,av] <;> rfl
def rSlL(K:aa):V->Option Int->Option Int->Hp->VK->Prop:=fun x lo hi H Q=>∃a xs,x = .ref a∧SqL K H a xs∧∀p,H p=none->Q (.ref p) (upd H p (.lst (y6Z xs lo hi)))
theorem sl_list:SlR X (rSlL X.K):=by
 intro pins s σ H x v vl vu lo hi sl Q I rx hs pl pu h
 obtain⟨a,xs,rfl,hx,q⟩:=h
 cases rx
 obtain⟨its,r,ht,hz⟩:=I.list hx
 have hlen:=r.length
 refine⟨"list",_,slot_list_getitem.lookup,ht.isList.typeIs,?_⟩
 refine wpAny_getItem_list_slice ht.isList hs pl pu .none (by simp) ?_ (by rw[av] <;> omega)
 rw[z9X,←hlen]
 refine⟨.ref s.heap.objs.size,_,I.laid (t':=s.toks) (o:=.lst (y6Z xs lo hi)) (fun b ob q=>Heap.get?_push_of_some _ q) (am _) ?_,rfl,q _ (I.hok.fresh (am _))⟩
 exact⟨aG (z7Z xs lo hi) hz,_,0,(r.drop (HT.sIx xs.length 0 lo)).take (HT.sIx xs.length xs.length hi - HT.sIx xs.length 0 lo),Heap.get?_push_size _ rfl⟩
theorem y1B:z3w X (.type "list") (fun xs H Q=>∃p ys,xs=[.ref p]∧(SqL X.K H p ys∨SqT X.K H p ys)∧∀l,H l=none->Q (.ref l) (upd H l (.lst ys))):=by
 intro pins s σ H xs us Q I r h
 obtain⟨p,ys,rfl,hq,q⟩:=h
 obtain⟨u,rfl,rx⟩:=z6O r
 cases rx
 have fin:∀(its:List Value),Vals ys its->ys.length≤sizeLine->∀(h':Heap) (c':Nat),(∀b o',s.heap.get? b=some o'->h'.get? b=some o') →
   h'.get? s.heap.objs.size=some { cls:=.type "list",dict:=none,data:=.seq its.toArray c',slots:=#[] }->EP X pins σ Q (.ref s.heap.objs.size) { s with heap:=h' }:=fun its r' hz h' c' kp e=>
  ⟨.ref s.heap.objs.size,_,I.laid (t':=s.toks) kp (am _) (show ObjOk X.prog X.w _ h' _ (.lst ys) from⟨hz,its,c',r',e⟩),rfl,q _ (I.hok.fresh (am _))⟩
 rcases hq with hq | hq
 ·obtain⟨its,r',pl,hz⟩:=I.list hq
  have hlen:=r'.length
  obtain⟨o,ho,hc,n,hd⟩:=pl.isList
  exact call_list_seq p (.inl rfl) ho hc hd (fun h' c' kp e=>fin its r' hz h' c' kp e) (by simp only[av] <;> omega)
 ·obtain⟨its,r',pl,hz⟩:=I.tuple hq
  have hlen:=r'.length
  obtain⟨o,ho,hc,n,hd⟩:=pl
  exact call_list_seq p (.inr rfl) ho hc hd (fun h' c' kp e=>fin its r' hz h' c' kp e) (by simp only[av] <;> omega)
theorem z9J:z3w X (.type "tuple") (fun xs H Q=>∃p ys,xs=[.ref p]∧((SqL X.K H p ys∧∀l,H l=none->Q (.ref l) (upd H l (.tup ys)))∨(SqT X.K H p ys∧Q (.ref p) H))):=by
 intro pins s σ H xs us Q I r h
 obtain⟨p,ys,rfl,h⟩:=h
 obtain⟨u,rfl,rx⟩:=z6O r
 cases rx
 rcases h with⟨hq,q⟩ | ⟨hq,q⟩
 ·obtain⟨its,r',pl,hz⟩:=I.list hq
  have hlen:=r'.length
  refine call_tuple_list pl.isList (fun h' kp=>?_) (by simp only[av] <;> omega)
  have I1:Inv X pins σ H { s with heap:=h' }:=I.kept (t':=s.toks) kp
  have I2:Inv X pins σ (upd H h'.objs.size (.tup ys)) { s with heap:=h'.push { cls:=.type "tuple",data:=.seq its.toArray } }:=
   I1.laid (t':=s.toks) (fun b o e=>Heap.get?_push_of_some _ e) (am _) (show ObjOk X.prog X.w _ _ _ (.tup ys) from⟨hz,its,r',TupN.new _ _⟩)
  exact⟨.ref h'.objs.size,_,I2,rfl,q _ (I1.hok.fresh (am _))⟩
 ·obtain⟨its,r',pl,hz⟩:=I.tuple hq
  exact call_tuple_same pl ⟨.ref p,H,I,rfl,q⟩
def tyV(K:aa)(T:String)(x:V)(H:Hp):Prop:=match x with
 |.str _=>T = "str"
 |.int _=>T = "int"
 |.ref p=>(T = "list" ∧ ∃xs,SqL K H p xs)∨(T = "tuple" ∧ ∃o,K.lookup p=some o∧o.cls = .type "tuple" ∧ o.dict=none) ∨
   (T = "dict" ∧ ((∃kvs,H p=some (.dK kvs))∨∃kvs,H p=some (.dT kvs)))∨(T = "set" ∧ ∃S n,H p=some (.set S n))
 |_=>False
theorem tyV_is{pins:List (Addr×Obj)}{σ:St}{H:Hp}{s:Shared}{T:String}{x:V}{v:Value}(I:Inv X pins σ H s)(r:RelV x v)(ty:tyV X.K T x H):
  s.TypeIs v T∧∀a,v = .ref a->∃ob,s.heap.get? a=some ob∧ob.dict=none:=by
 cases x with
 |str z=>
  obtain⟨t,rfl⟩:=r
  cases (show T = "str" from ty)
  exact⟨typeIs_str s z t,fun _ e=>nomatch e⟩
 |int i=>
  obtain⟨t,rfl⟩:=r
  cases (show T = "int" from ty)
  exact⟨typeIs_int s i t,fun _ e=>nomatch e⟩
 |ref p=>
  cases r
  rcases ty with⟨rfl,xs,hq⟩ | ⟨rfl,o,hk,hc,hd⟩ | ⟨rfl,hk⟩ | ⟨rfl,S,n,hk⟩
  ·obtain⟨its,_,pl,_⟩:=I.list hq
   refine⟨pl.isList.typeIs,fun a e=>?_⟩
   cases e
   obtain⟨o,n,e,c,hd,_⟩:=pl
   exact⟨o,e,hd⟩
  ·refine⟨⟨o,I.kIn p o hk,hc⟩,fun a e=>?_⟩
   cases e
   exact⟨o,I.kIn _ o hk,hd⟩
  ·have z:∃o,s.heap.get? p=some o∧o.ExactDict:=by
    rcases hk with⟨kvs,hk⟩ | ⟨kvs,hk⟩
    ·obtain⟨_,_,_,_,o,_,_,e,ex,_⟩:=I.hok p _ hk
     exact⟨o,e,ex⟩
    ·obtain⟨_,_,_,_,o,_,_,e,ex,_⟩:=I.hok p _ hk
     exact⟨o,e,ex⟩
   obtain⟨o,e,ex⟩:=z
   refine⟨⟨o,e,ex.1⟩,fun a e2=>?_⟩
   cases e2
   exact⟨o,e,ex.2.1⟩
  ·obtain⟨o,_,_,_,e,ex,_⟩:=I.hok p _ hk
   refine⟨⟨o,e,ex.1⟩,fun a e2=>?_⟩
   cases e2
   exact⟨o,e,ex.2.1⟩
 |_=>exact False.elim ty
def tBM(K:aa)(T:String)(r:V->List V->Hp->VK->Prop)(to:TE)(t:TA):TE:=fun σ H Q=>to σ H fun x H1=>tyV K T x H1∧t σ H1 fun xs H2=>r x xs H2 Q
variable{o e:Expr}{es:List Expr}{to:TE}{t:TA}{name:Str}{apos cpos:Pos}{T id:String}{r:V->List V->Hp->VK->Prop}
theorem y6x(pa:PlainAttrs T)(slot:Slot T name id)(hty:typeOf (.builtin id)=pure (.type "method_descriptor"))(hm:MtR X id r)(ho:PE X o to)(ha:PA X (e::es) t)
  (hbase:fJ o name X.env (eval o X.env)=eval o X.env:=by rfl)
  (hfew:((fI cpos (starEach (e::es) X.env)).all (fun x=>!x.1)&&(fQ cpos (keywordEach [] X.env)).all (fun x=>x.1.isSome)
   && decide ((e::es).length+([]:List fK).length+(if([]:List fK).isEmpty then 0 else 1)<30))=true:=by rfl)
  (hline:(apos.endLine==cpos.line)=true:=by rfl) (hs:starEach (e::es) X.env=(false,eval e X.env)::starEach es X.env:=by rfl) (hplain:(fI cpos (starEach es X.env)).any (·.1)=false:=by rfl):
  PE X (.Call (.Attribute o name apos) (e::es) [] cpos) (tBM X.K T r to t):=by
 intro pins s σ H Q I h
 refine wpAny_Call_method_late hbase hfew hline rfl (thn (ho pins s σ H _ I h) fun v s1 ⟨x,H1,I1,r1,ty,q1⟩=>?_)
 obtain⟨h1,h2⟩:=tyV_is I1 r1 ty
 refine⟨T,id,pa,slot,hty,h1,h2,?_⟩
 have hA:=ha cpos pins s1 σ H1 _ I1 q1
 rw[hs]at hA ⊢
 refine Calls.callWith_builtin (by show(false||(fI cpos (starEach es X.env)).any (·.1))=false;rw[hplain] <;> rfl) (Calls.evalArgs_plain ?_)
 exact thn hA fun us s2 ⟨vs,H2,I2,r2,q2⟩=>hm pins s2 σ H2 x vs v us Q I2 r1 r2 q2
end
def MtM(X:Cx)(id:String)(r:V->List V->Hp->VK->Prop):Prop:=
 ∀(pins:List (Addr×Obj)) (s:Shared) (σ:St) (H:Hp) (x:V) (xs:List V) (v:Value) (us:List Value) (Q:VK),Inv X pins σ H s->RelV x v->Vals xs us->r x xs H Q →
  wpAny (model X.prog X.w) X.A (call (.builtin id) (v::us)) (EP X pins σ Q) X.xe s
theorem Vals.one:∀{x:V} {us:List Value},Vals [x] us->∃u,us=[u]∧RelV x u
 |_,_,.cons r .nil=>⟨_,rfl,r⟩
theorem Vals.eraseIdx:∀{xs:List V} {us:List Value} (i:Nat),Vals xs us->Vals (xs.eraseIdx i) (us.eraseIdx i)
 |_,_,_,.nil=>.nil
 |_,_,0,.cons _ t=>t
 |_,_,i+1,.cons r t=>.cons r (Vals.eraseIdx i t)
theorem Vals.reverse{xs:List V}{us:List Value}(h:Vals xs us):Vals xs.reverse us.reverse:=by
 induction h with
 |nil=>exact .nil
 |cons r t ih=>rw[br,br];exact Vals.append ih (.cons r .nil)
theorem Vals.rep{xs:List V}{us:List Value}(h:Vals xs us):∀k:Nat,Vals (ai k xs).flatten (ai k us).flatten
 |0=>.nil
 |k+1=>by
  rw[bn,bn,bB,bB]
  exact Vals.append h (Vals.rep h k)
theorem y1U{α:Type}:∀(l:List α) (i:Nat),(l.eraseIdx i).length≤l.length
 |[],_=>am _
 |_::_,0=>dP _
 |_::r,i+1=>dO (y1U r i)
theorem y1S(its:List Value):∀(k:Nat) (acc:List Value),
  fz (fun x1 x2=>x1++x2) acc.toArray (ai k its.toArray)=(acc++(ai k its).flatten).toArray
 |0,acc=>by simp
 |k+1,acc=>by
  have e:acc.toArray++its.toArray=(acc++its).toArray:=by simp
  have e2:(acc++its)++(ai k its).flatten=acc++(ai (k+1) its).flatten:=by
   rw[bn,bB,aT]
  rw[←e2,←y1S its k (acc++its),←e,bn,List.foldl_cons]
section
variable{X:Cx}{pins:List (Addr×Obj)}{σ:St}{H:Hp}{s:Shared}{l:Addr}{xs ys:List V}
theorem Inv.lset{its its':List Value}{n:Nat}{f:Array Value->Array Value}{t':Nat}(I:Inv X pins σ H s)(hH:H l=some (.lst xs))
  (e:s.heap.get? l=some { cls:=.type "list",data:=.seq its.toArray n }) (hf:f its.toArray=its'.toArray) (hv:Vals ys its') (hz:ys.length≤sizeLine):
  Inv X pins σ (upd H l (.lst ys)) { s with heap:=s.heap.update l (Obj.mapSeq f),toks:=t' }:=by
 have q:=PySem.IsL.update e f
 rw[hf]at q
 refine I.write (x:=l) (e:=l) (by rw[hH];exact trivial) (.inl rfl) (fun b' u hb hu=>(Heap.get?_update_other s.heap (Obj.mapSeq f) (Ne.symm hb)).trans hu) ⟨_,q⟩ ?_
 exact⟨hz,its',_,hv,q⟩
theorem Inv.lnew{its:List Value}{t':Nat}(I:Inv X pins σ H s)(hv:Vals ys its)(hz:ys.length≤sizeLine):
  Inv X pins σ (upd H s.heap.objs.size (.lst ys)) { s with heap:=s.heap.push { cls:=.type "list",data:=.seq its.toArray },toks:=t' }:=
 I.laid (fun _ _ q=>Heap.get?_push_of_some _ q) (am _) ⟨hz,its,0,hv,Heap.get?_push_size _ rfl⟩
theorem Inv.fresh(I:Inv X pins σ H s):H s.heap.objs.size=none:=I.hok.fresh (am _)
theorem Inv.lstM(I:Inv X pins σ H s)(hH:H l=some (.lst xs)):xs.length≤sizeLine∧∃(its:List Value) (n:Nat),Vals xs its∧xs.length=its.length∧s.heap.get? l=some { cls:=.type "list",data:=.seq its.toArray n }:=by
 obtain⟨z,its,n,r,e⟩:=I.hok l _ hH
 exact⟨z,its,n,r,r.length,e⟩
theorem y5S{n:Nat}(h:n≤sizeLine):Builtin.List.listTooLong n=false:=by
 unfold Builtin.List.listTooLong
 exact decide_eq_false (by omega)
end
section
variable{X:Cx}
def y9R:V->List V->Hp->VK->Prop:=fun x vs H Q=>∃l xs y,x = .ref l∧vs=[y]∧H l=some (.lst xs)∧xs.length<sizeLine∧Q .non (upd H l (.lst (xs++[y])))
theorem z1y:MtM X "list.append" y9R:=by
 intro pins s σ H x vs v us Q I rx rv h
 obtain⟨l,xs,y,rfl,rfl,hH,hz,q⟩:=h
 cases rx
 obtain⟨u,rfl,ru⟩:=rv.one
 obtain⟨z,its,n,r,hl,e⟩:=I.lstM hH
 refine call_meets F.slot_list_append ⟨_,e,rfl⟩ F.entry_list_append (F.args_list_append_2 _ _) (PySem.list_append l its.toArray n u (by rw[av];omega)) ⟨e,?_⟩
 refine⟨.non,_,I.lset (its':=its++[u]) hH e (by simp) (r.append (.cons ru .nil)) ?_,rfl,q⟩
 rw[aD,eX]
 omega
def rExtend:V->List V->Hp->VK->Prop:=fun x vs H Q=>∃l b xs zs,x = .ref l∧vs=[.ref b]∧H l=some (.lst xs)∧H b=some (.lst zs)∧xs.length+zs.length≤sizeLine∧Q .non (upd H l (.lst (xs++zs)))
theorem y9O:MtM X "list.extend" rExtend:=by
 intro pins s σ H x vs v us Q I rx rv h
 obtain⟨l,b,xs,zs,rfl,rfl,hH,hB,hz,q⟩:=h
 cases rx
 obtain⟨u,rfl,ru⟩:=rv.one
 cases ru
 obtain⟨z,its,n,r,hl,e⟩:=I.lstM hH
 obtain⟨z2,its2,n2,r2,hl2,e2⟩:=I.lstM hB
 have hsz:its.toArray.size+its2.toArray.size≤sizeLine:=by rw[av,av];omega
 have hlong:¬ (!its.toArray.isEmpty&&Builtin.List.listTooLong (its.toArray.size+its2.toArray.size))=true:=by
  rw[y5S hsz,Bool.and_false]
  exact ar
 refine call_meets F.slot_list_extend ⟨_,e,rfl⟩ F.entry_list_extend (F.args_list_extend_2 _ _)
  (AutoSeq1.list_extend_list_list_0 l its.toArray n b its2.toArray n2 hlong (by rw[av];omega) (by omega)) ⟨e,e2,?_⟩
 refine⟨.non,_,I.lset (its':=its++its2) hH e (by simp) (r.append r2) ?_,rfl,q⟩
 rw[aD]
 omega
def rPopAt:V->List V->Hp->VK->Prop:=fun x vs H Q=>∃l xs i k y,x = .ref l∧vs=[.int i]∧H l=some (.lst xs)∧-(2 ^ 63)≤i∧i<2 ^ 63∧seqIndex? i xs.length=some k∧xs[k]? = some y∧Q y (upd H l (.lst (xs.eraseIdx k)))
theorem x3s:MtM X "list.pop" rPopAt:=by
 intro pins s σ H x vs v us Q I rx rv h
 obtain⟨l,xs,i,k,y,rfl,rfl,hH,h1,h2,hk,hy,q⟩:=h
 cases rx
 obtain⟨u,rfl,ru⟩:=rv.one
 obtain⟨t,rfl⟩:=ru
 obtain⟨z,its,n,r,hl,e⟩:=I.lstM hH
 obtain⟨w,hw,rw'⟩:=r.get hy
 refine call_meets F.slot_list_pop ⟨_,e,rfl⟩ F.entry_list_pop (F.args_list_pop_2 _ _)
  (MeetsSeq.list_pop_at l its.toArray n i t k w (fitsIndex_both h1 h2) (by rw[av,←hl];exact hk) (by rw[←Array.getElem?_toList];exact hw) (by rw[av];omega)) ⟨e,?_⟩
 refine⟨y,_,I.lset (its':=its.eraseIdx k) hH e ?_ (r.eraseIdx k) ?_,rw',q⟩
 ·show its.toArray.eraseIdxIfInBounds k=(its.eraseIdx k).toArray
  rw[List.eraseIdxIfInBounds_toArray]
 ·have:=y1U xs k
  omega
def rCat:R2:=fun x y H Q=>∃l b xs zs,x = .ref l∧y = .ref b∧H l=some (.lst xs)∧H b=some (.lst zs)∧xs.length+zs.length≤sizeLine∧∀p,H p=none->Q (.ref p) (upd H p (.lst (xs++zs)))
theorem y7y:OpR X (fM .Add) rCat:=by
 intro pins s σ H x y v u Q I rx ry h
 obtain⟨l,b,xs,zs,rfl,rfl,hH,hB,hz,q⟩:=h
 cases rx
 cases ry
 obtain⟨z,its,n,r,hl,e⟩:=I.lstM hH
 obtain⟨z2,its2,n2,r2,hl2,e2⟩:=I.lstM hB
 refine PySem.P.add_list e e2 ?_ (by rw[av,av];omega)
 have ea:its.toArray++its2.toArray=(its++its2).toArray:=by simp
 rw[ea]
 exact⟨.ref _,_,I.lnew (t':=s.toks) (r.append r2) (by rw[aD];omega),rfl,q _ I.fresh⟩
def rRep:R2:=fun x y H Q=>∃l k xs,x = .ref l∧y = .int k∧H l=some (.lst xs)∧-(2 ^ 63)≤k∧k<2 ^ 63∧xs.length*k.toNat≤sizeLine ∧
 ∀p,H p=none->Q (.ref p) (upd H p (.lst (ai k.toNat xs).flatten))
theorem len_rep{α:Type}(xs:List α)(k:Nat):(ai k xs).flatten.length=k*xs.length:=by
 induction k with
 |zero=>simp
 |succ k ih=>rw[bn,bB,aD,ih,Nat.succ_mul,Nat.add_comm]
theorem op_rep:OpR X (fM .Mult) rRep:=by
 intro pins s σ H x y v u Q I rx ry h
 obtain⟨l,k,xs,rfl,rfl,hH,h1,h2,hz,q⟩:=h
 cases rx
 obtain⟨t,rfl⟩:=ry
 obtain⟨z,its,n,r,hl,e⟩:=I.lstM hH
 have hlen:its.toArray.size*k.toNat≤sizeLine:=by rw[av,←hl];exact hz
 have hcap:¬ its.toArray.size*k.toNat>(2 ^ 63 - 1) / 8:=by
  have:(sizeLine:Nat)≤(2 ^ 63 - 1) / 8:=by decide
  omega
 have hfit:¬ (!Builtin.List.listFitsIndex k)=true:=by
  rw[fitsIndex_both h1 h2]
  exact ar
 have hlong:¬ Builtin.List.listTooLong (its.toArray.size*k.toNat)=true:=by
  rw[y5S hlen]
  exact ar
 have hnew:fz (fun x1 x2=>x1++x2) #[] (ai (if its.toArray.isEmpty=true then 0 else k.toNat) its.toArray)=(ai k.toNat its).flatten.toArray:=by
  have f0:∀m:Nat,fz (fun x1 x2=>x1++x2) #[] (ai m its.toArray)=(ai m its).flatten.toArray:=fun m=>by
   have:=y1S its m []
   rw[cG]at this
   exact this
  rw[f0]
  cases its with
  |nil=>simp
  |cons a r'=>rw[if_neg (by simp)]
 refine wpAny_binaryOp_repeat_ref (T := "list") (U := "int") (by decide) ⟨_,e,rfl⟩ (fun s'=>typeIs_int s' k t) noFill_list_mul F.fills_int_mul F.slot_int_rmul repeat_list F.slot_int_index.lookup
  (call_meets F.slot_int_rmul (typeIs_int s k t) F.entry_int_rmul (F.args_int_rmul_2 _ _) (int___rmul___int_list k t l its.toArray n)
   ⟨e,rfl,⟨_,e,rfl⟩,call_meets F.slot_list_mul ⟨_,e,rfl⟩ F.entry_list_mul (F.args_list_mul_2 _ _) (AutoListH.list___mul___list_int_3 l its.toArray n k t hfit hcap hlong) ⟨e,?_⟩⟩)
 rw[hnew]
 exact⟨.ref _,_,I.lnew (t':=s.toks) (r.rep k.toNat) (by rw[len_rep,Nat.mul_comm];exact hz),rfl,q _ I.fresh⟩
end
section
end
section
end
end L2
namespace Att
open PySem PySem.W PySem.Calls PyProof.Rows
theorem z7B{P:Params}{h:Heap}:∀(ns:List Int) (vs:List Value),WellAll P h vs (ns.map WData.int)->IntsAre vs ns:=by
 intro ns
 induction ns with
 |nil=>
  intro vs w
  rw[cJ]at w
  cases w
  exact .nil
 |cons n ns ih=>
  intro vs w
  rw[aC]at w
  cases w with
  |cons a b=>
   cases a
   exact .cons _ _ (ih _ b)
theorem y9T{l:OpenLaw}{n:Nat}(hn:l.most=some n){P:Params}{h:Heap}{args:List WData}{vals:List Value}
  (hpre:l.row.toRowW.claim.pre args=true) (hwl:WellAll P h vals args):
  ∃a vs ns,vals=[Value.ref a]∧args=[WData.list (ns.map WData.int)]∧h.get? a=some { cls:=.type "list",data:=.seq vs.toArray }∧IntsAre vs ns∧ns.length≤n:=by
 have hsh:WShape.hasAll [] args [.list .int]=true:=(pre_splitW hpre).1
 have hc:l.pre.holds [] { args:=args }=true:=(pre_splitW hpre).2
 obtain⟨d,r,rfl,h1,h2⟩:=hasAllW_cons hsh
 obtain rfl:=hasAllW_nil h2
 obtain⟨xs,rfl,h3⟩:=hasW_list h1
 obtain⟨ns,rfl⟩:=items_int h3
 have hlen:ns.length≤n:=by
  unfold OpenLaw.pre at hc
  have h4:(WTm.not (.lt (.lit (.int (n:Int))) (.len (.arg 0)))).holds [] { args:=[.list (ns.map .int)] }=true:=by
   have h4:=(holds_andW hc).1
   rw[hn]at h4
   exact h4
  have h5:=condW_of h4 (w_not (w_lt w_lit (w_len_list (w_arg rfl))))
  rw[ah]at h5
  refine Nat.le_of_not_lt fun q=>?_
  have q':(n:Int)<((ns.length:Nat):Int):=by omega
  first
   | (rw[decide_eq_true q']at h5;exact absurd h5 (by decide))
   | (simp at h5;omega)
 cases hwl with
 |cons w1 w2=>
  cases w2
  cases w1 with
  |list ho hall=>exact⟨_,_,ns,rfl,rfl,ho,z7B ns _ hall,hlen⟩
theorem y8t(l:OpenLaw)(args:List WData):l.row.toRowW.claim.post args (.bool true) args=true:=
 postW_of (r:=l.row.toRowW) (X:=(true==true))
  (show WShape.has [] (.bool true) .bool=true by first | rfl | decide | simp[WShape.has,WShape.arms,WShape.armsAll])
  (show(WTm.eq .res (.lit (.bool true))).value [] { args:=args,res:=some (.bool true),after:=args }=some (.bool (true==true)) from w_eq_bool (w_res rfl) w_lit) rfl
theorem attach_call{l:OpenLaw}{n:Nat}{q:dw}{loose:List Str}{XP:(Str->Option Value)->Heap->Prop}{YP:fE->Heap->Prop}{d:DefRec}
  (hn:l.most=some n) (hdf:d.params.defaults=[])
  (call:∀(w:fE) (s₀ s₁:Shared) (mg mb:Str->Option Value) (fa:Addr) (o:Obj) (pm cd doc:Value) (a:Addr) (vs:List Value) (ns:List Int),
   Ground q loose [] XP w s₀ mg mb s₁.heap->YP w s₁.heap →
   s₁.heap.get? fa=some o->o.data = .func (docDef d.name d.params d.body d.scope pm cd doc)->s₁.heap.CodeRec cd d.name->mg d.name=some (.ref fa) →
   s₁.heap.get? a=some { cls:=.type "list",data:=.seq vs.toArray }->IntsAre vs ns->ns.length≤n->s₁.gens = #[] →
   codeAny (model l.prog w) callerA (.call (.ref fa) ⟨[.ref a],[]⟩) (fun r s'=>r = .ok (.ret (.bool true))∧OldK s₁.heap s'.heap∧s'.os=s₁.os∧AllBare s'.gens) s₁):
  WalkO q loose XP YP l.row.toRowW d [] (fun f vs=>PySem.call f vs):=by
 intro w s₀ s₁ mg mb G Y fa o pm cd doc dV kV ho hd hcd hD hmg hg args vals as hpre hlay hrd hwl hlo
 obtain rfl:dV = .none:=Dflts.none hD hdf
 obtain rfl:kV = .none:=Dflts.noKw hD
 obtain⟨a,vs,ns,rfl,rfl,hobj,hints,hlen⟩:=y9T hn hpre hwl
 refine enter_call (codeAny_mono (call w s₀ s₁ mg mb fa o pm cd doc a vs ns G Y ho (fd_plain hd) hcd hmg hobj hints hlen hg) fun r s' hq=>?_)
 obtain⟨rfl,h2,h3,h4⟩:=hq
 exact⟨.inl ⟨.bool true,.bool true,[],rfl,fun _=>rfl,.bool true,y8t l _,fun _=>⟨List.Pairwise.nil,fun _ hm=>(nomatch hm)⟩⟩,h2,h3,h4⟩
section
def ledger(h:Heap)(L d:Addr):List (Addr×Obj):=(ad h.objs.size).filterMap fun a=>if a=L∨a=d then none else(h.get? a).map fun o=>(a,o)
end
end Att
namespace L2
open PySem PySem.Spec PyProof.Rows
theorem y1A:∀{vs:List Value} {ns:List Int},IntsAre vs ns->Vals (ns.map V.int) vs
 |_,_,.nil=>.nil
 |_,_,.cons n t h=>.cons ⟨t,rfl⟩ (y1A h)
def Only(H:Hp):Prop:=∀b,H b=none∨∃o xs,H b=some (.frz o (.lst xs))
theorem x3n{P:dw}{w:fE}{K:aa}{mg mb:Str->Option Value}{CX:CXT}{k:Nat}{fa a:Addr}{fd:fF}{x:Str}{sp:Sp}{s₁:Shared}{vs:List Value}{ns:List Int}
  (KX:K.In s₁.heap) (hns:s₁.heap.Ns mainGlobals mg) (hb:s₁.heap.Ns builtinsNs mb) (hbb:∀x:Str,x ≠ "__name__" → mb x=fL x) (hlim:s₁.heap.NoLimit) (hg:s₁.gens = #[])
  (ha:s₁.heap.get? a=some { cls:=.type "list",data:=.seq vs.toArray }) (hi:IntsAre vs ns) (hl:ns.length≤sizeLine) (hr:Room k callerA)
  (F:∀base:Heap,K.In base->base.Ns mainGlobals mg->FnOk P w K mg base CX k fa fd [x] sp) (hbind:∀(s:Shared) (u:Value),BindsTo s fd ⟨[u],[]⟩ [(x,u)])
  (hsp:∀H:Hp,Only H->SqL K H a (ns.map V.int)->sp [.ref a] H (fun v _=>v = .bl true) fun _ _ _=>False)
  (hCX:∀H e s',CX [] H s₁ (fun _ _ _=>False) e s'->False):
  codeAny (model P w) callerA (.call (.ref fa) ⟨[.ref a],[]⟩) (fun r s'=>r = .ok (.ret (.bool true))∧OldK s₁.heap s'.heap∧s'.os=s₁.os∧AllBare s'.gens) s₁:=by
 have rv:=y1A hi
 have lenV:=hi.length
 have core:∀H:Hp,Only H->SqL K H a (ns.map V.int)->HOk P w H s₁.heap->(∀b,H b≠none->b=a)->(H a≠none->K.lookup a=none) →
   codeAny (model P w) callerA (.call (.ref fa) ⟨[.ref a],[]⟩) (fun r s'=>r = .ok (.ret (.bool true))∧OldK s₁.heap s'.heap∧s'.os=s₁.os∧AllBare s'.gens) s₁:=by
  intro H hO hS hok hA hK
  have base_of:∀{b:Addr} {o:Obj},s₁.heap.get? b=some o->H b=none->(x3R s₁.heap H).get? b=some o:=fun e n=>x3O e n
  have noA:∀{b:Addr} {o:Obj} {es:Array DictEntry} {ep:Nat},s₁.heap.get? b=some o->o.data = .dict es ep->H b=none:=fun {b o es ep} e d=>by
   cases q:H b with
   |none=>rfl
   |some u=>
    have e':b=a:=hA b (by rw[q];simp)
    subst e'
    rw[ha]at e;cases e
    have d':Data.seq vs.toArray _=Data.dict es ep:=d
    cases d'
  have nsK:∀{b:Addr} {m:Str->Option Value},s₁.heap.Ns b m->(x3R s₁.heap H).Ns b m:=fun {b m} ⟨o,es,ep,e,d,r⟩=>⟨o,es,ep,base_of e (noA e d),d,r⟩
  have hKb:K.In (x3R s₁.heap H):=fun b o e=>base_of (KX b o e) (by
   cases q:H b with
   |none=>rfl
   |some u=>
    have e':b=a:=hA b (by rw[q];simp)
    subst e'
    rw[hK (by rw[q];simp)]at e;cases e)
  have hM:Mod K mg (x3R s₁.heap H):=⟨hKb,nsK hns,⟨mb,nsK hb,hbb⟩,let⟨mc,h1,h2⟩:=hlim;⟨mc,nsK h1,h2⟩⟩
  have e0:Env0 P w K mg (x3R s₁.heap H) callerA [] s₁ H:=⟨rfl,hM,fun b o e=>of_hidT e,Nat.le_of_eq (x0p _ _),trivial,fun b hb=>absurd (show b∈([]:List Addr) from hb) (by simp),hok,.of_eq hg⟩
  refine codeAny_mono ((F _ hKb (nsK hns)).run callerA [] s₁ H ⟨[.ref a],[]⟩ [.ref a] [.ref a] _ _ hr e0 (hbind s₁ (.ref a)) (.cons rfl .nil) (hsp H hO hS)) fun r s' h=>?_
  cases r with
  |error e=>exact(hCX H e s' h).elim
  |ok fl=>
   cases fl with
   |next=>exact False.elim h
   |brk=>exact False.elim h
   |cont=>exact False.elim h
   |ret u=>
    obtain⟨v,H',os,bare,un,hok',r',q⟩:=h
    have q':v = .bl true:=q
    subst q'
    obtain rfl:u=Value.bool true:=r'
    refine⟨rfl,OldK.of_keep fun b o e=>?_,os,bare⟩
    cases q:H b with
    |none=>exact un.keep b o e q (by intro z;exact absurd (show b∈([]:List Addr) from z) (by simp)) (by simp)
    |some u=>
     rcases hO b with z | ⟨ob,xs,z⟩
     ·rw[q]at z;cases z
     ·have z2:=un.frzs b ob _ z
      obtain⟨e1,_⟩:=hok b _ z
      obtain⟨e2,_⟩:=hok' b _ z2
      rw[e]at e1;cases e1
      exact e2
 cases hk:K.lookup a with
 |some o=>
  have e:=KX a o hk
  rw[ha]at e
  cases e
  refine core (fun _=>none) (fun _=>.inl rfl) (.inr ⟨_,vs.toArray,_,hk,rfl,rfl,rfl,by rw[av,lenV];exact hl,by simpa using rv⟩) (fun b u z=>by have z':(none:Option HO)=some u:=z;cases z') (fun b z=>absurd rfl z) fun z=>absurd rfl z
 |none=>
  refine core (fun b=>if b=a then some (.frz { cls:=.type "list",data:=.seq vs.toArray } (.lst (ns.map V.int)))else none) (fun b=>?_) (.inl (.inr ⟨{ cls:=.type "list",data:=.seq vs.toArray },if_pos rfl⟩)) (fun b u z=>?_) (fun b z=>?_) fun _=>hk
  ·by_cases hb:b=a
   ·exact .inr ⟨_,_,if_pos hb⟩
   ·exact .inl (if_neg hb)
  ·by_cases hb:b=a
   ·have z':=(if_pos hb).symm.trans z
    cases z'
    subst hb
    exact⟨ha,by rw[ah];exact hl,vs,_,rv,ha⟩
   ·have z':=(if_neg hb).symm.trans z
    cases z'
  ·by_cases hb:b=a
   ·exact hb
   ·exact absurd (if_neg hb) z
abbrev KOf{K:aa}{h:Heap}(_:K.In h):aa:=K
theorem walk_of{l:dE}{n k:Nat}{q:dw}{loose:List Str}{XP:(Str->Option Value)->Heap->Prop}{YP:fE->Heap->Prop}{d:DefRec}{K:Params->aa}{CX:fE->CXT}{sp:fE->Sp}{x:Str}
  (hn:l.most=some n) (hn2:n≤sizeLine) (hdf:d.params.defaults=[]) (hr:Room k callerA)
  (hY:∀(w:fE) (h:Heap),YP w h->(K w.params).In h)
  (F:∀(w:fE) (mg:Str->Option Value) (fa:Addr) (h:Heap),(K w.params).In h->h.Ns mainGlobals mg->mg d.name=some (.ref fa) →
   ∃fd:fF,(∀(s:Shared) (u:Value),BindsTo s fd ⟨[u],[]⟩ [(x,u)]) ∧
    ∀base:Heap,(K w.params).In base->base.Ns mainGlobals mg->FnOk l.prog w (K w.params) mg base (CX w) k fa fd [x] (sp w))
  (hsp:∀(w:fE) (H:Hp) (a:Addr) (ns:List Int),ns.length≤n->Only H->SqL (K w.params) H a (ns.map V.int)->sp w [.ref a] H (fun v _=>v = .bl true) fun _ _ _=>False)
  (hCX:∀(w:fE) (H:Hp) (s:Shared) (e:Value) (s':Shared),CX w [] H s (fun _ _ _=>False) e s'->False):
  PySem.W.WalkO q loose XP YP l.row.toRowW d [] (fun f vs=>PySem.call f vs):=by
 refine Att.attach_call hn hdf fun w s₀ s₁ mg mb fa o pm cd doc a vs ns G Y ho hd hcd hmg hobj hints hlen hg=>?_
 have KX:=hY w _ Y
 obtain⟨fd,hb,hF⟩:=F w mg fa _ KX G.T.g hmg
 exact x3n KX G.T.g G.T.b G.T.builtins G.T.nolimit hg hobj hints (aG hlen hn2) hr hF hb (fun H hO hS=>hsp w H a ns hlen hO hS) fun H e s'=>hCX w H s₁ e s'
def z3c(s:Stmt):Arguments:=match s with
 |.FunctionDef _ a _ _ _ _ _ _ _ _=>a
 |_=>{ posonlyargs:=[],args:=[],vararg:=none,kwonlyargs:=[],kw_defaults:=[],kwarg:=none,defaults:=[] }
def z1m(s:Stmt):List Stmt:=match s with
 |.FunctionDef _ _ b _ _ _ _ _ _ _=>b
 |_=>[]
def z0e(s:Stmt):fO:=match s with
 |.FunctionDef _ _ _ _ _ _ sc _ _ _=>sc
 |_=>{ kind:=.function,names:=[],isGenerator:=false,isCoroutine:=false }
abbrev CX0:CXT:=fun _ _ _ _ _ _=>False
abbrev E0:XK:=fun _ _ _=>False
theorem pass0{X:Cx}:x0h CX0 X E0:=fun _ _ _ _ _ _ _ h=>h.elim
structure Fun(K:aa)(x qual:Str)(st:Stmt)(f:Addr)(fd:fF):Prop where
 ex:∃(oc:Value) (od:Option Addr) (kV doc pm:Value) (an:Option Addr) (cdv ct:Value) (osl:Array (Option Value)),
  fd=bv x qual (z3c st) (z1m st) (z0e st) .none kV doc pm an cdv ct∧K.lookup f=some ⟨oc,od,.func fd,osl⟩∧c3 K cdv qual=true
 kp:bH K (.ref f)=true
section
variable{P:dw}{w:fE}{K:aa}{mg:Str->Option Value}{base:Heap}
theorem Fun.ok{x qual:Str}{st:Stmt}{f:Addr}{fd:fF}{N ps:List Str}{k:Nat}{sp:Sp}(F:Fun K x qual st f fd)(S:FnScope N ps (z0e st))(len:∀vs H Q E,sp vs H Q E->vs.length=ps.length)
  (hbody:∀(cdv:Value) (A:Around) (outer:List Env) (s:Shared) (H:Hp) (vs:List V) (Q:VK) (E:XK),Room k (A.deeper (envOfC qual (z0e st) s.heap.objs.size f cdv))->sp vs H Q E →
   ∃t,PSs (y2B CX0 P w K mg base N qual (z0e st) f cdv A outer s H E).nox (z1m st) t∧t { nx:=fun _ H'=>Q .non H',rt:=Q } (z4A N vs) H):FnOk P w K mg base CX0 (k+1) f fd ps sp:=by
 obtain⟨oc,od,kV,doc,pm,an,cdv,ct,osl,rfl,lk,hcd⟩:=F.ex
 refine fn_of lk hcd S len fun A outer s H vs Q E hr hsp=>?_
 obtain⟨t,h,q⟩:=hbody cdv A outer s H vs Q E hr hsp
 exact⟨t,h.nox,q⟩
theorem Fun.binds{x qual:Str}{st:Stmt}{f:Addr}{fd:fF}{ps:List Str}(F:Fun K x qual st f fd)
  (h:∀(kV doc pm:Value) (an:Option Addr) (cdv ct:Value) (us:List Value),us.length=ps.length->bindArgs (bv x qual (z3c st) (z1m st) (z0e st) .none kV doc pm an cdv ct) ⟨us,[]⟩=pure (ps.zip us)):Binds K fd ps []:=by
 obtain⟨oc,od,kV,doc,pm,an,cdv,ct,osl,rfl,lk,hcd⟩:=F.ex
 exact .all (h kV doc pm an cdv ct)
theorem fun_mk{x qual:Str}{st:Stmt}{f:Addr}{oc:Value}{od an:Option Addr}{osl:Array (Option Value)}{kV doc pm cdv ct:Value}(l:K.lookup f=some ⟨oc,od,.func (bv x qual (z3c st) (z1m st) (z0e st) .none kV doc pm an cdv ct),osl⟩)
  (c:c3 K cdv qual=true) (k:bH K (.ref f)=true):Fun K x qual st f (bv x qual (z3c st) (z1m st) (z0e st) .none kV doc pm an cdv ct):=⟨⟨oc,od,kV,doc,pm,an,cdv,ct,osl,rfl,l,c⟩,k⟩
end
theorem z8c{n:Nat}(h:n≤1000):n<sizeLine:=dq h (by decide)
section
variable{X:Cx}
theorem pv(i:Nat){x:Str}{pos:Pos}(hN:X.N[i]? = some x:=by rfl)(hv:Vis X.env.scope x:=by first | exact Or.inl rfl | exact Or.inr (Or.inl rfl) | exact Or.inr (Or.inr rfl))(hd:(x==("__debug__" : Str))=false:=by decide)
  (hcd:(x==("__classdict__" : Str))=false:=by decide):PE X (.Name x pos) (y2I i):=pe_var hN hv hd hcd
end
theorem iteF{A B:Prop}(h:B):if false=true then A else B:=by
 rw[if_neg ar]
 exact h
theorem iteT{A B:Prop}(h:A):if true=true then A else B:=by
 rw[if_pos rfl]
 exact h
def Same(H H':Hp):Prop:=∀b o,H b=some o->H' b=some o
theorem Same.refl(H:Hp):Same H H:=fun _ _ h=>h
theorem Same.trans{H H1 H2:Hp}(a:Same H H1)(b:Same H1 H2):Same H H2:=fun c o h=>b c o (a c o h)
theorem Same.free{H H':Hp}(e:Same H H'){l:Addr}(h:H' l=Option.none):H l=Option.none:=by
 cases q:H l with
 |none=>rfl
 |some o=>
  rw[e l o q]at h
  cases h
section
variable{κ:Type}[DecidableEq κ]
def y5h(kvs:List (κ×V))(k:κ):Option V:=(kvs.find? fun kv=>decide (kv.1=k)).map (·.2)
def z8t(kvs:List (κ×V))(k:κ)(v:V):List (κ×V):=
 if(kvs.any fun kv=>decide (kv.1=k))=true then kvs.map (fun kv=>if kv.1=k then(kv.1,v)else kv)else kvs++[(k,v)]
theorem y0n{p:κ×V}{r:List (κ×V)}{k:κ}(e:p.1=k):y5h (p::r) k=some p.2:=by simp[y5h,bM,e]
theorem z9w{p:κ×V}{r:List (κ×V)}{k:κ}(e:¬ p.1=k):y5h (p::r) k=y5h r k:=by simp[y5h,bM,e]
theorem z9T(k:κ):∀kvs:List (κ×V),(kvs.any fun kv=>decide (kv.1=k))=(y5h kvs k).isSome
 |[]=>rfl
 |p::r=>by
  rw[cU]
  by_cases e:p.1=k
  ·simp only[y0n e,decide_eq_true e,Bool.true_or,e9]
  ·rw[z9w e,decide_eq_false e,Bool.false_or];exact z9T k r
theorem z4P(kvs:List (κ×V))(k:κ)(v:V):(z8t kvs k v).length≤kvs.length+1:=by
 unfold z8t
 split
 ·rw[ah];omega
 ·rw[aD,aY,dS];omega
theorem RelO.isSome_eq{o:Option V}{u:Option Value}(r:RelO o u):o.isSome=u.isSome:=by
 cases o with
 |none=>cases u with
  |none=>rfl
  |some _=>exact(show False from r).elim
 |some _=>cases u with
  |none=>exact(show False from r).elim
  |some _=>rfl
theorem KV.val{kvs:List (κ×V)}{vs:List (κ×Value)}(r:KV kvs vs)(k:κ):RelO (y5h kvs k) (valueAt vs k):=by
 unfold KV at r
 induction r with
 |nil=>exact True.intro
 | @cons p q ps qs h t ih=>
  obtain⟨h1,h2⟩:=h
  by_cases e:p.1=k
  ·have e':q.1=k:=h1.symm.trans e
   have b:valueAt (q::qs) k=some q.2:=by simp[valueAt,bM,e']
   rw[y0n e,b];exact h2
  ·have e':¬ q.1=k:=fun z=>e (h1.trans z)
   have b:valueAt (q::qs) k=valueAt qs k:=by simp[valueAt,bM,e']
   rw[z9w e,b];exact ih
theorem KV.any{kvs:List (κ×V)}{vs:List (κ×Value)}(r:KV kvs vs)(k:κ):(kvs.any fun kv=>decide (kv.1=k))=vs.any fun kv=>decide (kv.1=k):=by
 unfold KV at r
 induction r with
 |nil=>rfl
 |cons h t ih=>rw[cU,cU,ih,h.1]
theorem KV.repl{kvs:List (κ×V)}{vs:List (κ×Value)}(r:KV kvs vs)(k:κ){y:V}{u:Value}(ry:RelV y u):
  KV (kvs.map fun kv=>if kv.1=k then(kv.1,y)else kv) (vs.map fun kv=>if kv.1=k then(kv.1,u)else kv):=by
 unfold KV at r ⊢
 induction r with
 |nil=>exact .nil
 | @cons p q ps qs h t ih=>
  rw[aC,aC]
  refine .cons ?_ ih
  obtain⟨h1,h2⟩:=h
  by_cases e:p.1=k
  ·rw[if_pos e,if_pos (h1.symm.trans e)];exact⟨h1,ry⟩
  ·rw[if_neg e,if_neg (fun z=>e (h1.trans z))];exact⟨h1,h2⟩
theorem KV.put{kvs:List (κ×V)}{vs:List (κ×Value)}(r:KV kvs vs)(k:κ){y:V}{u:Value}(ry:RelV y u):KV (z8t kvs k y) (stored vs k u):=by
 unfold z8t stored
 rw[r.any k]
 by_cases e:(vs.any fun kv=>decide (kv.1=k))=true
 ·rw[if_pos e,if_pos e];exact r.repl k ry
 ·rw[if_neg e,if_neg e];exact Paired.snoc r ⟨rfl,ry⟩
theorem KV.keys{kvs:List (κ×V)}{vs:List (κ×Value)}(r:KV kvs vs):kvs.map (·.1)=vs.map (·.1):=by
 unfold KV at r
 induction r with
 |nil=>rfl
 |cons h t ih=>rw[aC,aC,ih,h.1]
theorem KV.length{kvs:List (κ×V)}{vs:List (κ×Value)}(r:KV kvs vs):kvs.length=vs.length:=Paired.length r
end
theorem y9P{P:dw}{w:fE}{k:Key}{u:Value}(r:RelV (kV k) u):(z1k P w).is k u=true:=by
 cases k with
 |inl i=>obtain⟨t,e⟩:=(show ∃t,u=Value.int i t from r);subst e;exact y3a P w i t
 |inr x=>obtain⟨t,e⟩:=(show ∃t,u=Value.str x t from r);subst e;exact y3g P w x t
theorem y1y{P:dw}{w:fE}:∀{ks:List Key} {us:List Value},Vals (ks.map kV) us->ItemsAre (z1k P w) ks us
 |[],_,r=>by rw[cJ]at r;cases r;exact .nil
 |k::ks,_,r=>by
  rw[aC]at r
  cases r with
  |cons h t=>exact .cons (y9P h) (y1y t)
abbrev KT(H:Hp):List (List Key×V)->List (List Key×Addr×Value)->Prop:=Paired fun p q=>p.1=q.1∧H q.2.1=some (.tup (p.1.map kV))∧RelV p.2 q.2.2
theorem KT.val{H:Hp}{kvs:List (List Key×V)}{xs:List (List Key×Addr×Value)}(r:KT H kvs xs)(k:List Key):RelO (y5h kvs k) ((atKey xs k).map (·.2)):=by
 induction r with
 |nil=>exact True.intro
 | @cons p q ps qs h t ih=>
  obtain⟨h1,_,h2⟩:=h
  by_cases e:p.1=k
  ·have e':q.1=k:=h1.symm.trans e
   have b:atKey (q::qs) k=some q.2:=by simp[atKey,bM,e']
   rw[y0n e,b];exact h2
  ·have e':¬ q.1=k:=fun z=>e (h1.trans z)
   have b:atKey (q::qs) k=atKey qs k:=by simp[atKey,bM,e']
   rw[z9w e,b];exact ih
theorem KT.repl{H:Hp}{kvs:List (List Key×V)}{xs:List (List Key×Addr×Value)}(r:KT H kvs xs)(k:List Key){y:V}{u:Value}(ry:RelV y u):
  KT H (kvs.map fun kv=>if kv.1=k then(kv.1,y)else kv) (xs.map (putAt k u)):=by
 induction r with
 |nil=>exact .nil
 | @cons p q ps qs h t ih=>
  rw[aC,aC]
  refine .cons ?_ ih
  obtain⟨h1,h2,h3⟩:=h
  unfold putAt
  by_cases e:p.1=k
  ·rw[if_pos e,if_pos (h1.symm.trans e)];exact⟨h1,h2,ry⟩
  ·rw[if_neg e,if_neg (fun z=>e (h1.trans z))];exact⟨h1,h2,h3⟩
theorem KT.put{H:Hp}{kvs:List (List Key×V)}{xs:List (List Key×Addr×Value)}(r:KT H kvs xs)(k:List Key){b:Addr}{y:V}{u:Value}(hb:H b=some (.tup (k.map kV)))(ry:RelV y u):
  KT H (z8t kvs k y) (storedH xs k b u):=by
 have e:(kvs.any fun kv=>decide (kv.1=k))=(atKey xs k).isSome:=by
  rw[z9T,(r.val k).isSome_eq,cO]
 unfold z8t storedH
 rw[e]
 by_cases q:(atKey xs k).isSome=true
 ·rw[if_pos q,if_pos q];exact r.repl k ry
 ·rw[if_neg q,if_neg q];exact Paired.snoc r ⟨rfl,hb,ry⟩
theorem KT.keeps{H H':Hp}{kvs:List (List Key×V)}{xs:List (List Key×Addr×Value)}(r:KT H kvs xs)(ht:∀b ys,H b=some (.tup ys)->H' b=some (.tup ys)):KT H' kvs xs:=
 Paired.mapP r fun _ _ z=>⟨z.1,ht _ _ z.2.1,z.2.2⟩
section
variable{P:dw}{w:fE}{H:Hp}{h:Heap}{a:Addr}
theorem rd_of{u:HO}(ok:HOk P w H h)(e:Rd H a u):ObjOk P w H h a u:=e.ok ok
theorem dk_rd{kvs:List (Key×V)}(ok:HOk P w H h)(e:Rd H a (.dK kvs)):kvs.length≤sizeLine∧(a==sysModules)=false∧∃vs,KV kvs vs∧h.DictOf (z1k P w) a vs:=
 show ObjOk P w H h a (.dK kvs) from rd_of ok e
theorem dk_of{kvs:List (Key×V)}(ok:HOk P w H h)(e:H a=some (.dK kvs)):kvs.length≤sizeLine∧(a==sysModules)=false∧∃vs,KV kvs vs∧h.DictOf (z1k P w) a vs:=dk_rd ok (.inl e)
theorem y5z{ks:List Key}(ok:HOk P w H h)(e:H a=some (.tup (ks.map kV))):(tupleKind (z1k P w)).is h ks a:=by
 obtain⟨_,its,r,o,h1,h2,n,h3⟩:=(show ObjOk P w H h a (.tup (ks.map kV)) from ok a _ e)
 exact⟨o,its.toArray,n,h1,h2.1,h3,by simpa using y1y r⟩
theorem dt_rd{kvs:List (List Key×V)}(ok:HOk P w H h)(e:Rd H a (.dT kvs)):kvs.length≤sizeLine∧(a==sysModules)=false ∧
  ∃xs,KT H kvs xs∧h.DictOfH (tupleKind (z1k P w)) a xs:=by
 obtain⟨z,y,xs,r,o,es,ep,h1,h2,h3,h4,h5⟩:=(show ObjOk P w H h a (.dT kvs) from rd_of ok e)
 refine⟨z,y,xs,r,o,es,ep,h1,h2,h3,h4,fun x hx=>?_,h5⟩
 have all:∀{l:List (List Key×V)} {m:List (List Key×Addr×Value)},KT H l m->∀x∈m,(tupleKind (z1k P w)).is h x.1 x.2.1:=by
  intro l m q
  induction q with
  |nil=>intro x hx;exact nomatch hx
  | @cons p q ps qs hq t ih=>
   intro x hx
   rcases ao.mp hx with e | hx
   ·subst e
    exact y5z ok (by rw[←hq.1];exact hq.2.1)
   ·exact ih x hx
 exact all r x hx
theorem dt_of{kvs:List (List Key×V)}(ok:HOk P w H h)(e:H a=some (.dT kvs)):kvs.length≤sizeLine∧(a==sysModules)=false ∧
  ∃xs,KT H kvs xs∧h.DictOfH (tupleKind (z1k P w)) a xs:=dt_rd ok (.inl e)
end
def DGet(H:Hp)(a:Addr)(y:V)(r:Option V):Prop:=
 (∃kvs k,Rd H a (.dK kvs)∧y=kV k∧r=y5h kvs k)∨∃kvs k b,Rd H a (.dT kvs)∧y = .ref b∧H b=some (.tup (k.map kV))∧r=y5h kvs k
def DPut(H:Hp)(a:Addr)(y v:V)(H':Hp):Prop:=
 (∃kvs k,H a=some (.dK kvs)∧y=kV k∧kvs.length<sizeLine∧H'=upd H a (.dK (z8t kvs k v))) ∨
 ∃kvs k b,H a=some (.dT kvs)∧y = .ref b∧H b=some (.tup (k.map kV))∧kvs.length<sizeLine∧H'=upd H a (.dT (z8t kvs k v))
theorem DGet.k{H:Hp}{a:Addr}{kvs:List (Key×V)}{k:Key}(e:H a=some (.dK kvs)):DGet H a (kV k) (y5h kvs k):=.inl ⟨kvs,k,.inl e,rfl,rfl⟩
theorem DPut.k{H:Hp}{a:Addr}{kvs:List (Key×V)}{k:Key}{v:V}(e:H a=some (.dK kvs))(hl:kvs.length<sizeLine):DPut H a (kV k) v (upd H a (.dK (z8t kvs k v))):=.inl ⟨kvs,k,e,rfl,hl,rfl⟩
section
variable{X:Cx}{pins:List (Addr×Obj)}{σ:St}{H:Hp}{s:Shared}{a:Addr}{y v:V}{u r:Value}{o:Option V}{A:Around}{E:Value->Shared->Prop}
theorem Inv.big(I:Inv X pins σ H s):sysModules<s.heap.objs.size:=by
 have h:mainGlobals<s.heap.objs.size:=(I.mod.glob.keeps I.bk).lt
 exact Nat.lt_trans (by decide) h
theorem d_in{Q:Value->Shared->Prop}(hu:A.units+1<cLine)(I:Inv X pins σ H s)(g:DGet H a y o)(ry:RelV y u)(h:∀s',Inv X pins σ H s'->Q (.bool o.isSome) s'):
  wpAny (model X.prog X.w) A (compareOp .In u (.ref a)) Q E s:=by
 rcases g with⟨kvs,k,e,ey,l⟩ | ⟨kvs,k,b,e,ey,eb,l⟩
 ·subst ey
  obtain⟨z,hd,vs,rel,dd⟩:=dk_rd I.hok e
  refine wpAny_in_of (y9P ry) hd dd.mapOf ?_
  rw[←(rel.val k).isSome_eq,←l]
  exact h _ (I.tok _)
 ·subst ey
  cases (show u=Value.ref b from ry)
  obtain⟨z,hd,xs,rel,dd⟩:=dt_rd I.hok e
  refine wpAny_in_heap (tupleKind_room_in1 hu) (y5z I.hok eb) hd dd ?_
  have q:=(rel.val k).isSome_eq
  rw[cO]at q
  rw[←q,←l]
  exact h _ (I.tok _)
theorem d_notIn{Q:Value->Shared->Prop}(hu:A.units+1<cLine)(I:Inv X pins σ H s)(g:DGet H a y o)(ry:RelV y u)(h:∀s',Inv X pins σ H s'->Q (.bool (!o.isSome)) s'):
  wpAny (model X.prog X.w) A (compareOp .NotIn u (.ref a)) Q E s:=by
 rcases g with⟨kvs,k,e,ey,l⟩ | ⟨kvs,k,b,e,ey,eb,l⟩
 ·subst ey
  obtain⟨z,hd,vs,rel,dd⟩:=dk_rd I.hok e
  refine wpAny_notIn_of (y9P ry) hd dd.mapOf ?_
  rw[←(rel.val k).isSome_eq,←l]
  exact h _ (I.tok _)
 ·subst ey
  cases (show u=Value.ref b from ry)
  obtain⟨z,hd,xs,rel,dd⟩:=dt_rd I.hok e
  refine wpAny_notIn_heap (tupleKind_room_in1 hu) (y5z I.hok eb) hd dd ?_
  have q:=(rel.val k).isSome_eq
  rw[cO]at q
  rw[←q,←l]
  exact h _ (I.tok _)
theorem y2N{h':Heap}{t':Nat}{ob:HO}(I:Inv X pins σ H s)(mu:Mut (H a))(hs:Heap.SameBut a s.heap h')(he:∃q,h'.get? a=some q)(new:ObjOk X.prog X.w (upd H a ob) h' a ob):
  Inv X pins σ (upd H a ob) { s with heap:=h',toks:=t' }:=
 I.write (x:=a) (e:=a) mu (.inl rfl) (fun b q hb z=>(hs.2 b hb).trans z) he new
theorem x5A{P:dw}{w:fE}{H':Hp}{h':Heap}{kvs:List (Key×V)}{vs:List (Key×Value)}(z:kvs.length≤sizeLine)(hd:(a==sysModules)=false)(rel:KV kvs vs)(dd:h'.DictOf (z1k P w) a vs):
  ObjOk P w H' h' a (.dK kvs):=⟨z,hd,vs,rel,dd⟩
theorem x1d{H':Hp}{Q:Unit->Shared->Prop}(hu:A.units+1<cLine)(I:Inv X pins σ H s)(g:DPut H a y v H')(ry:RelV y u)(rv:RelV v r)(h:∀s',Inv X pins σ H' s'->Q () s'):
  wpAny (model X.prog X.w) A (setItem (.ref a) u r) Q E s:=by
 rcases g with⟨kvs,k,e,ey,l,eH⟩ | ⟨kvs,k,b,e,ey,eb,l,eH⟩
 ·subst ey eH
  obtain⟨z,hd,vs,rel,dd⟩:=dk_of I.hok e
  have hz:vs.length≤sizeLine:=by rw[←rel.length];exact z
  have hl:(z8t kvs k v).length≤sizeLine:=by have:=z4P kvs k v;omega
  refine wpAny_setItem_pairs (hsz:=hz) (y9P ry) dd fun h' dd' hs=>h _ ?_
  have he:∃q,h'.get? a=some q:=let⟨q,_,_,hq,_⟩:=dd';⟨q,hq⟩
  exact y2N I (by rw[e];exact True.intro) hs he (x5A hl hd (rel.put k rv) dd')
 ·subst ey eH
  cases (show u=Value.ref b from ry)
  obtain⟨z,hd,xs,rel,dd⟩:=dt_of I.hok e
  have hz:xs.length≤sizeLine:=by rw[←Paired.length rel];exact z
  have hl:(z8t kvs k v).length≤sizeLine:=by have:=z4P kvs k v;omega
  refine wpAny_setItem_heap (hsz:=hz) (tupleKind_room_in1 hu) (y5z I.hok eb) dd fun h' dd' hs=>h _ ?_
  obtain⟨q,es,ep,hq,h2,h3,h4,_,h5⟩:=dd'
  refine y2N I (by rw[e];exact True.intro) hs ⟨q,hq⟩ ⟨hl,hd,_,(rel.put k eb rv).keeps fun c ys ec=>?_,q,es,ep,hq,h2,h3,h4,h5⟩
  rw[z0v (ne_of ec e (fun z=>nomatch z))]
  exact ec
end
section
end
def tDIn(ty td:TE):TE:=fun σ H Q=>ty σ H fun y H1=>td σ H1 fun x H2=>∃a o,x = .ref a∧DGet H2 a y o∧Q (.bl o.isSome) H2
def tDNotIn(ty td:TE):TE:=fun σ H Q=>ty σ H fun y H1=>td σ H1 fun x H2=>∃a o,x = .ref a∧DGet H2 a y o∧Q (.bl (!o.isSome)) H2
def sDPut(td ty tv:TE):TS:=fun D σ H=>tv σ H fun v H1=>td σ H1 fun x H2=>ty σ H2 fun y H3=>∃a H4,x = .ref a∧DPut H3 a y v H4∧D.nx σ H4
section
variable{X:Cx}{o i value:Expr}{pos pos':Pos}{td ty tv:TE}
theorem pc_din(hu:X.A.units+1<cLine)(hi:PE X i ty)(ho:PE X o td):PC X .In i o (tDIn ty td):=by
 intro pins s σ H Q I h
 refine thn (hi pins s σ H _ I h) fun iv s1 ⟨y,H1,I1,ry,q1⟩=>thn (ho pins s1 σ H1 _ I1 q1) fun u s2 ⟨x,H2,I2,rx,a,ov,ex,g,q2⟩=>?_
 subst ex
 obtain rfl:u=Value.ref a:=rx
 exact d_in hu I2 g ry fun s3 I3=>⟨.bl ov.isSome,H2,I3,rfl,q2⟩
theorem y7Y(hu:X.A.units+1<cLine)(hi:PE X i ty)(ho:PE X o td):PC X .NotIn i o (tDNotIn ty td):=by
 intro pins s σ H Q I h
 refine thn (hi pins s σ H _ I h) fun iv s1 ⟨y,H1,I1,ry,q1⟩=>thn (ho pins s1 σ H1 _ I1 q1) fun u s2 ⟨x,H2,I2,rx,a,ov,ex,g,q2⟩=>?_
 subst ex
 obtain rfl:u=Value.ref a:=rx
 exact d_notIn hu I2 g ry fun s3 I3=>⟨.bl (!ov.isSome),H2,I3,rfl,q2⟩
theorem ps_dput(hu:X.A.units+1<cLine)(ho:PE X o td)(hi:PE X i ty)(hv:PE X value tv)(hs:swapsWith value (some (.Subscript o i pos')) pos.line X.env=pure false):
  PS X (.Assign [.Subscript o i pos'] value pos) (sDPut td ty tv):=by
 intro pins s σ H D I h
 refine wpAny_Assign_Subscript (thn (hv pins s σ H _ I h) fun r s1 ⟨v,H1,I1,rv,q1⟩=>thn (ho pins s1 σ H1 _ I1 q1) fun u s2 ⟨x,H2,I2,rx,q2⟩=>thn (hi pins s2 σ H2 _ I2 q2) fun iv s3 ⟨y,H3,I3,ry,a,H4,ex,g,q3⟩=>?_) hs
 subst ex
 obtain rfl:u=Value.ref a:=rx
 exact x1d hu I3 g ry rv fun s4 I4=>⟨σ,H4,I4,q3⟩
end
theorem y4s{P:dw}{w:fE}{H:Hp}(h:Heap)(hb:sysModules<h.objs.size):ObjOk P w H (h.push { cls:=.type "dict",data:=.dict #[] }) h.objs.size (.dK []):=
 ⟨bu _,beq_eq_false_iff_ne.mpr (Ne.symm (aH hb)),[],.nil,Heap.DictOf.new h⟩
def tDNewK:TE:=fun _ H Q=>∀p,H p=none->Q (.ref p) (upd H p (.dK []))
section
variable{X:Cx}{pos:Pos}
theorem pe_dnewK:PE X (.Dict [] [] pos) tDNewK:=fun pins s σ H Q I h=>
 wpAny_Dict_empty ⟨.ref s.heap.objs.size,_,I.laid (a:=s.heap.objs.size) (o:=.dK []) (t':=s.toks) (fun _ _ q=>Heap.get?_push_of_some _ q) (am _) (y4s s.heap I.big),rfl,h _ (I.hok.fresh (am _))⟩
end
def y8W:List (TE×TE)->St->Hp->(List (V×V)->Hp->Prop)->Prop
 |[],_,H,Q=>Q [] H
 | (tk,tv)::r,σ,H,Q=>tk σ H fun x H1=>tv σ H1 fun y H2=>y8W r σ H2 fun ps H3=>Q ((x,y)::ps) H3
abbrev VV:List (V×V)->List (Value×Value)->Prop:=Paired fun p q=>RelV p.1 q.1∧RelV p.2 q.2
def PPs(X:Cx)(pos:Pos)(keys:List (Option Expr))(values:List Expr)(trs:List (TE×TE)):Prop:=
 ∀(pins:List (Addr×Obj)) (s:Shared) (σ:St) (H:Hp) (Q:List (V×V)->Hp->Prop),Inv X pins σ H s->y8W trs σ H Q →
  wpAny (model X.prog X.w) X.A (evalPairs (pairTrees keys values X.env pos)) (fun vs s'=>∃ps H',Inv X pins σ H' s'∧VV ps vs∧Q ps H') X.xe s
theorem pps_nil{X:Cx}{pos:Pos}:PPs X pos [] [] []:=fun pins s σ H Q I h=>pairTrees_nil_walk ⟨[],H,I,.nil,h⟩
theorem x3X{X:Cx}{pos:Pos}{k v:Expr}{ks:List (Option Expr)}{vs:List Expr}{tk tv:TE}{trs:List (TE×TE)}(hk:PE X k tk)(hv:PE X v tv)(hr:PPs X pos ks vs trs):
  PPs X pos (some k::ks) (v::vs) ((tk,tv)::trs):=fun pins s σ H Q I h=>
 pairTrees_cons_walk (thn (hk pins s σ H _ I h) fun u s1 ⟨x,H1,I1,rx,q1⟩=>thn (hv pins s1 σ H1 _ I1 q1) fun w2 s2 ⟨y,H2,I2,ry,q2⟩=>
  thn (hr pins s2 σ H2 _ I2 q2) fun ws s3 ⟨ps,H3,I3,rel,q3⟩=>⟨(x,y)::ps,H3,I3,.cons ⟨rx,ry⟩ rel,q3⟩)
def y1d(kvs more:List (Key×V)):List (Key×V):=more.foldl (fun acc kv=>z8t acc kv.1 kv.2) kvs
theorem KV.merge:∀{more:List (Key×V)} {rs:List (Key×Value)} {kvs:List (Key×V)} {vs:List (Key×Value)},KV more rs->KV kvs vs->KV (y1d kvs more) (merged vs rs):=by
 intro more rs kvs vs r
 unfold KV at r
 induction r generalizing kvs vs with
 |nil=>intro q;exact q
 | @cons p q ps qs h t ih=>
  intro r0
  have e:KV (z8t kvs p.1 p.2) (stored vs q.1 q.2):=by
   have:=r0.put p.1 h.2
   rw[←h.1];exact this
  exact ih e
theorem z5r:∀(more kvs:List (Key×V)),(y1d kvs more).length≤kvs.length+more.length
 |[],kvs=>by show kvs.length≤kvs.length+0;omega
 |p::r,kvs=>by
  have h1:=z5r r (z8t kvs p.1 p.2)
  have h2:=z4P kvs p.1 p.2
  show(y1d (z8t kvs p.1 p.2) r).length≤_
  rw[aY];omega
theorem z9b{P:dw}{w:fE}:∀{kvs:List (Key×V)} {ws:List (Value×Value)},VV (kvs.map fun kv=>(kV kv.1,kv.2)) ws->∃rs,Carries (z1k P w) ws rs∧KV kvs rs
 |[],_,r=>by rw[cJ]at r;cases r;exact⟨[],True.intro,.nil⟩
 |p::kvs,_,r=>by
  rw[aC]at r
  cases r with
  | @cons a b as bs h t=>
   obtain⟨rs,c,q⟩:=z9b (P:=P) (w:=w) t
   obtain⟨b1,b2⟩:=b
   exact⟨(p.1,b2)::rs,⟨y9P h.1,rfl,c⟩,.cons ⟨rfl,h.2⟩ q⟩
def tDisp(trs:List (TE×TE)):TE:=fun σ H Q=>∀p,H p=none->y8W trs σ (upd H p (.dK [])) fun ps H2=>H2 p=some (.dK [])∧∃kvs:List (Key×V),ps=kvs.map (fun kv=>(kV kv.1,kv.2))∧kvs.length≤15∧Q (.ref p) (upd H2 p (.dK (y1d [] kvs)))
theorem pe_disp{X:Cx}{pos:Pos}{keys:List (Option Expr)}{values:List Expr}{trs:List (TE×TE)}(h:PPs X pos keys values trs)(hall:keys.all (·.isSome)=true)(hl:keys.length=values.length)(h0:keys≠[])
  (h15:keys.length≤15):PE X (.Dict keys values pos) (tDisp trs):=by
 intro pins s σ H Q I q
 have hn:=I.hok.fresh (am s.heap.objs.size)
 have I1:=I.laid (a:=s.heap.objs.size) (o:=.dK []) (h':=s.heap.push { cls:=.type "dict",data:=.dict #[] }) (t':=s.toks) (fun _ _ q=>Heap.get?_push_of_some _ q) (am _) (y4s s.heap I.big)
 refine wpAny_Dict_walk (knd:=z1k X.prog X.w) hall hl h0 h15 (thn (h pins _ σ _ _ I1 (q _ hn)) fun ws s2 ⟨ps,H2,I2,rel,e,kvs,ep,lk,q2⟩=>?_)
 subst ep
 obtain⟨rs,c,rk⟩:=z9b (P:=X.prog) (w:=X.w) rel
 obtain⟨z,hd,vs0,r0,dd⟩:=dk_of I2.hok e
 cases r0
 refine⟨rs,c,dd,fun h' dd' hs=>⟨.ref s.heap.objs.size,_,?_,rfl,q2⟩⟩
 have hz:(y1d [] kvs).length≤sizeLine:=by
  have h1:=z5r kvs []
  rw[dS]at h1
  rw[sizeLine_eq];omega
 have he:∃q,h'.get? s.heap.objs.size=some q:=let⟨q,_,_,hq,_⟩:=dd';⟨q,hq⟩
 exact y2N I2 (by rw[e];exact True.intro) hs he (x5A hz hd (rk.merge .nil) dd')
structure M1(X:Cx)(o:Expr)(m:Str)(apos:Pos)(e:Expr)(cpos:Pos):Prop where
 base:fJ o m X.env (eval o X.env)=eval o X.env
 few:((fI cpos (starEach [e] X.env)).all (fun x=>!x.1)&&(fQ cpos (keywordEach [] X.env)).all (fun x=>x.1.isSome)
  && decide (([e]:List Expr).length+([]:List fK).length+(if([]:List fK).isEmpty then 0 else 1)<30))=true
 line:(apos.endLine==cpos.line)=true
 trees:fI cpos (starEach [e] X.env)=[(false,eval e X.env)]
structure M2(X:Cx)(o:Expr)(m:Str)(apos:Pos)(e f:Expr)(cpos:Pos):Prop where
 base:fJ o m X.env (eval o X.env)=eval o X.env
 few:((fI cpos (starEach [e,f] X.env)).all (fun x=>!x.1)&&(fQ cpos (keywordEach [] X.env)).all (fun x=>x.1.isSome)
  && decide (([e,f]:List Expr).length+([]:List fK).length+(if([]:List fK).isEmpty then 0 else 1)<30))=true
 line:(apos.endLine==cpos.line)=true
 trees:fI cpos (starEach [e,f] X.env)=[(false,eval e X.env),(false,eval f X.env)]
section
end
section
end
section
end
section
end
def z3l(cells:List (Str×Addr)):List (Str×NameKind)->List (Str×Addr)->List (Str×Addr)
 |[],acc=>acc
 | (n,k)::r,acc=>if k == .free then z3l cells r ((n,(cells.lookup n).getD 0)::acc)else z3l cells r acc
theorem z8n{env:Env}(f:Str×NameKind->List (Str×Addr)->Sem (ForInStep (List (Str×Addr))))
  (hf:∀n k cs,f (n,k) cs=if k == .free then(do let a ←cellOf env n;pure (.yield ((n,a)::cs)))else pure (.yield cs)):
  ∀(names:List (Str×NameKind)) (acc:List (Str×Addr)),(∀n,(n,NameKind.free)∈names->∃c,env.cells.lookup n=some c)->forIn names acc f=pure (z3l env.cells names acc)
 |[],acc,_=>by rw[List.forIn_nil];rfl
 | (n,k)::r,acc,h=>by
  have hr:=z8n f hf r
  rw[List.forIn_cons,hf]
  unfold z3l
  by_cases hk:(k==NameKind.free)=true
  ·rw[if_pos hk,if_pos hk]
   have ek:k = .free:=eq_of_beq hk
   subst ek
   obtain⟨c,e⟩:=h n af
   have e1:cellOf env n=pure c:=by unfold cellOf;rw[e]
   rw[e1,e]
   exact hr _ fun m hm=>h m (ae _ hm)
  ·rw[if_neg hk,if_neg hk]
   exact hr _ fun m hm=>h m (ae _ hm)
theorem z3N{scope:fO}{env:Env}(h:∀n,(n,NameKind.free)∈scope.names->∃c,env.cells.lookup n=some c):closureFor scope env=pure (z3l env.cells scope.names []):=by
 simp only[closureFor]
 rw[z8n _ (fun n k cs=>by cases hkc:k==NameKind.free <;> simp[hkc]) scope.names [] h]
 rfl
theorem z3V{cells:List (Str×Addr)}:∀(names:List (Str×NameKind)) (acc:List (Str×Addr)) {x:Str} {c:Addr},(x,c)∈z3l cells names acc->(x,c)∈acc∨((x,NameKind.free)∈names∧c=(cells.lookup x).getD 0)
 |[],_,_,_,h=>.inl h
 | (n,k)::r,acc,x,c,h=>by
  unfold z3l at h
  by_cases hk:(k==NameKind.free)=true
  ·rw[if_pos hk]at h
   have ek:k = .free:=eq_of_beq hk
   subst ek
   rcases z3V r _ h with z | ⟨z1,z2⟩
   ·rcases ao.mp z with q | q
    ·cases q
     exact .inr ⟨af,rfl⟩
    ·exact .inl q
   ·exact .inr ⟨ae _ z1,z2⟩
  ·rw[if_neg hk]at h
   rcases z3V r _ h with z | ⟨z1,z2⟩
   ·exact .inl z
   ·exact .inr ⟨ae _ z1,z2⟩
theorem z2V{α:Type}{x:Str}{c:α}:∀{l:List (Str×α)},(x,c)∈l->(l.lookup x).isSome=true
 | (n,d)::r,h=>by
  rw[cC]
  cases hb:x==n with
  |true=>rfl
  |false=>
   rcases ao.mp h with q | q
   ·cases q
    simp at hb
   ·exact z2V q
theorem z7J{cells:List (Str×Addr)}{x:Str}:∀(names:List (Str×NameKind)) (acc:List (Str×Addr)),(x,NameKind.free)∈names∨(∃c,(x,c)∈acc)->∃c,(x,c)∈z3l cells names acc
 |[],_,h=>h.elim (fun z=>nomatch z) id
 | (n,k)::r,acc,h=>by
  unfold z3l
  by_cases hk:(k==NameKind.free)=true
  ·rw[if_pos hk]
   refine z7J r _ ?_
   rcases h with z | ⟨c,z⟩
   ·rcases ao.mp z with q | q
    ·cases q
     exact .inr ⟨_,af⟩
    ·exact .inl q
   ·exact .inr ⟨c,ae _ z⟩
  ·rw[if_neg hk]
   refine z7J r _ ?_
   rcases h with z | z
   ·rcases ao.mp z with q | q
    ·cases q
     exact absurd (by rfl) hk
    ·exact .inl q
   ·exact .inr z
theorem z3H:∀(names:List (Str×NameKind)) (h:Heap) (acc:List (Str×Addr)) {x:Str} {c:Addr},(x,c)∈cellsFrom h.objs.size names acc →
  (x,c)∈acc∨((x,NameKind.cell)∈names∧h.objs.size≤c∧(pushCells h names).IsCell c none)
 |[],_,_,_,_,hm=>.inl hm
 | (n,k)::r,h,acc,x,c,hm=>by
  unfold cellsFrom at hm
  unfold pushCells
  by_cases hk:(k==NameKind.cell)=true
  ·rw[if_pos hk]at hm
   rw[if_pos hk]
   have ek:k = .cell:=eq_of_beq hk
   subst ek
   have e:(h.push { cls:=.type "cell",data:=.cell none }).objs.size=h.objs.size+1:=Heap.size_push ..
   rw[←e]at hm
   rcases z3H r _ _ hm with z | ⟨z1,z2,z3⟩
   ·rcases ao.mp z with q | q
    ·cases q
     exact .inr ⟨af,am _,⟨_,pushCells_keeps r _ _ _ (Heap.get?_push_size _ rfl),rfl⟩⟩
    ·exact .inl q
   ·exact .inr ⟨ae _ z1,by omega,z3⟩
  ·rw[if_neg hk]at hm
   rw[if_neg hk]
   rcases z3H r h acc hm with z | ⟨z1,z2,z3⟩
   ·exact .inl z
   ·exact .inr ⟨ae _ z1,z2,z3⟩
theorem z3q{x:Str}:∀(names:List (Str×NameKind)) (n:Nat) (acc:List (Str×Addr)),(x,NameKind.cell)∈names∨(∃c,(x,c)∈acc)->∃c,(x,c)∈cellsFrom n names acc
 |[],_,_,h=>h.elim (fun z=>nomatch z) id
 | (y,k)::r,n,acc,h=>by
  unfold cellsFrom
  by_cases hk:(k==NameKind.cell)=true
  ·rw[if_pos hk]
   refine z3q r _ _ ?_
   rcases h with z | ⟨c,z⟩
   ·rcases ao.mp z with q | q
    ·cases q
     exact .inr ⟨_,af⟩
    ·exact .inl q
   ·exact .inr ⟨c,ae _ z⟩
  ·rw[if_neg hk]
   refine z3q r _ _ ?_
   rcases h with z | z
   ·rcases ao.mp z with q | q
    ·cases q
     exact absurd (by rfl) hk
    ·exact .inl q
   ·exact .inr z
theorem z3x(lo:Nat):∀(names:List (Str×NameKind)) (n:Nat) (acc:List (Str×Addr)),(∀x y c,(x,c)∈acc->(y,c)∈acc->lo≤c->x=y)->(∀p∈acc,p.2<n) →
  ∀x y c,(x,c)∈cellsFrom n names acc->(y,c)∈cellsFrom n names acc->lo≤c->x=y
 |[],_,_,h,_=>h
 | (m,k)::r,n,acc,h,hb=>by
  unfold cellsFrom
  by_cases hk:(k==NameKind.cell)=true
  ·rw[if_pos hk]
   refine z3x lo r (n+1) ((m,n)::acc) (fun x y c hx hy hc=>?_) fun p hp=>?_
   ·rcases ao.mp hx with q | q <;> rcases ao.mp hy with q' | q'
    ·cases q;cases q';rfl
    ·cases q
     exact absurd (hb _ q') (bS _)
    ·cases q'
     exact absurd (hb _ q) (bS _)
    ·exact h x y c q q' hc
   ·rcases ao.mp hp with q | q
    ·cases q;exact Nat.lt_succ_self _
    ·exact cS (hb p q)
  ·rw[if_neg hk]
   exact z3x lo r n acc h hb
theorem z4F(env:Env)(x:Str):∀names:List (Str×NameKind),
  (names.map fun(n,k)=>if(k==NameKind.free&&env.scope.kind == .function&&env.kindOf n==some .cell)then(n,NameKind.cell)else(n,k)).lookup x =
   (names.lookup x).map fun k=>if(k==NameKind.free&&env.scope.kind == .function&&env.kindOf x==some .cell)then NameKind.cell else k
 |[]=>rfl
 | (n,k)::r=>by
  have ih:=z4F env x r
  show List.lookup x ((if(k==NameKind.free&&env.scope.kind == .function&&env.kindOf n==some .cell)=true then(n,NameKind.cell)else(n,k))::_)=_
  cases hx:x==n with
  |true=>
   have e:=eq_of_beq hx
   subst e
   by_cases hc:(k==NameKind.free&&env.scope.kind == .function&&env.kindOf x==some .cell)=true
   ·rw[if_pos hc]
    simp only[cC,beq_self_eq_true,bx,hc,if_true]
   ·rw[if_neg hc]
    simp only[cC,beq_self_eq_true,bx]
    rw[if_neg hc]
  |false=>
   by_cases hc:(k==NameKind.free&&env.scope.kind == .function&&env.kindOf n==some .cell)=true
   ·rw[if_pos hc];simp only[cC,hx];exact ih
   ·rw[if_neg hc];simp only[cC,hx];exact ih
theorem z3b{M:Model}{A:Around}{E:Value->Shared->Prop}{s:Shared}{scope:fO}{globals:Addr}{closure:List (Str×Addr)}{qual:Str}{env:Env}{Q:Env->Shared->Prop}
  (hQ:Q (newEnv scope s.heap.objs.size globals (cellsFrom (s.heap.objs.size+1) scope.names closure) qual none .none (some env) builtinsNs)
   { s with heap:=pushCells (s.heap.push { cls:=.type "dict",data:=.dict #[] }) scope.names }):
  wpAny M A (newFunctionEnv scope globals closure [] qual none .none (some env)) Q E s:=by
 simp only[newFunctionEnv,e9,if_true]
 refine wpAny_bind (wpAny_alloc ?_)
 refine wpAny_bind (wpAny_layCells _ (fun name kind cells=>by cases hkc:kind==NameKind.cell <;> simp[hkc]) _ _ _ _ ?_)
 rw[show({ s with heap:=s.heap.push { cls:=.type "dict",data:=.dict #[] } }:Shared).heap.objs.size=s.heap.objs.size+1 from Heap.size_push ..]
 refine wpAny_bind ?_
 rw[List.forIn_nil]
 exact wpAny_pure (wpAny_pure hQ)
def capOk(out names:List (Str×NameKind)):Bool:=names.all fun p=>!(decide (p.2=NameKind.free))||(decide (out.lookup p.1=some NameKind.cell)||decide (out.lookup p.1=some NameKind.free))
def nmOk(N N':List Str)(names:List (Str×NameKind)):Bool:=(ad N.length).all fun i=>match N'[i]? with
 |some y=>decide (names.lookup y=none)||(decide (names.lookup y=some NameKind.free)&&decide (N[i]? = some y))
 |none=>false
structure CompScope(N:List Str)(out:List (Str×NameKind))(N':List Str)(k:Nat)(sc:fO):Prop where
 kind:sc.kind = .function
 len:N'.length=N.length+k
 cap:capOk out sc.names=true
 nm:nmOk N N' sc.names=true
 uniq:sc.names.all (fun p=>decide (sc.names.lookup p.1=some p.2))=true
def z0E(X:Cx)(N':List Str)(sc:fO)(s:Shared)(H:Hp)(fp:List Addr)(pins:List (Addr×Obj))(E:Value->Shared->Prop):Cx where
 prog:=X.prog
 w:=X.w
 K:=X.K
 mg:=X.mg
 base:=X.base
 A:=X.A
 N:=N'
 s₀:=s
 H₀:=H
 env:=compEnvC sc (cellsFrom (s.heap.objs.size+1) sc.names (z3l X.env.cells sc.names [])) s.heap.objs.size X.env
 outer:=X.stack
 stack:=X.stack
 ex:=fp
 fn:=fun x=>decide (sc.names.lookup x=some .cell)
 calm:=X.calm
 pn:=X.pn++pins
 xe:=E
section
variable{X:Cx}{N':List Str}{k:Nat}{sc:fO}{pins:List (Addr×Obj)}{σ:St}{H:Hp}{s:Shared}{fp:List Addr}{E:Value->Shared->Prop}
theorem CompScope.fr(S:CompScope X.N X.env.scope.names N' k sc){x:Str}(h:(x,NameKind.free)∈sc.names):X.env.kindOf x=some .cell∨X.env.kindOf x=some .free:=by
 have q:=aI.mp S.cap _ h
 simp at q
 exact q
theorem CompScope.look{N:List Str}{out:List (Str×NameKind)}(S:CompScope N out N' k sc){x:Str}{kd:NameKind}(h:(x,kd)∈sc.names):sc.names.lookup x=some kd:=by
 have q:=aI.mp S.uniq _ h
 exact of_decide_eq_true q
theorem x2v(S:CompScope X.N X.env.scope.names N' k sc)(I:Inv X pins σ H s)(hf:∀b∈fp,y2A X pins H b)(hlt:∀b∈fp,b<s.heap.objs.size):
  Inv (z0E X N' sc s H fp pins E) [] (σ++ai k none) H { s with heap:=pushCells (s.heap.push { cls:=.type "dict",data:=.dict #[] }) sc.names }:=by
 have keeps:∀b o,s.heap.get? b=some o->(pushCells (s.heap.push { cls:=.type "dict",data:=.dict #[] }) sc.names).get? b=some o:=fun b o e=>pushCells_keeps _ _ _ _ (Heap.get?_push_of_some _ e)
 have hsz:(s.heap.push { cls:=.type "dict",data:=.dict #[] }).objs.size=s.heap.objs.size+1:=Heap.size_push ..
 have hns:(pushCells (s.heap.push { cls:=.type "dict",data:=.dict #[] }) sc.names).Ns s.heap.objs.size (fun _=>none):=(Heap.Ns.new s.heap (.type "dict")).keeps (pushCells_keeps _ _)
 have frc:∀x,(x,NameKind.free)∈sc.names->∃c,X.env.cells.lookup x=some c:=fun x h=>I.ok.has x (S.fr h)
 have cm:∀x c,(x,c)∈cellsFrom (s.heap.objs.size+1) sc.names (z3l X.env.cells sc.names []) →
   ((x,NameKind.cell)∈sc.names∧s.heap.objs.size+1≤c∧(pushCells (s.heap.push { cls:=.type "dict",data:=.dict #[] }) sc.names).IsCell c none)∨((x,NameKind.free)∈sc.names∧X.env.cells.lookup x=some c):=fun x c h=>by
  rw[←hsz]at h
  rcases z3H _ _ _ h with z | ⟨z1,z2,z3⟩
  ·rcases z3V _ _ z with z | ⟨z1,z2⟩
   ·exact nomatch z
   ·obtain⟨c',e⟩:=frc x z1
    rw[e]at z2
    cases z2
    exact .inr ⟨z1,e⟩
  ·exact .inl ⟨z1,by omega,z3⟩
 have cl:∀x c,(cellsFrom (s.heap.objs.size+1) sc.names (z3l X.env.cells sc.names [])).lookup x=some c->(x,c)∈cellsFrom (s.heap.objs.size+1) sc.names (z3l X.env.cells sc.names []):=fun x c h=>PySem.mem_of_lookup h
 have clt:∀x c,X.env.cells.lookup x=some c->c<s.heap.objs.size:=fun x c h=>by
  obtain⟨v,q⟩:=I.cell x c h
  exact q.lt
 have has:∀x,(x,NameKind.cell)∈sc.names∨(x,NameKind.free)∈sc.names->∃c,(cellsFrom (s.heap.objs.size+1) sc.names (z3l X.env.cells sc.names [])).lookup x=some c:=fun x h=>by
  obtain⟨c,hc⟩:=z3q (x:=x) sc.names (s.heap.objs.size+1) (z3l X.env.cells sc.names []) (h.imp id fun z=>z7J _ _ (.inl z))
  exact bN.mp (z2V hc)
 have kd:∀x kk,(relabel sc X.env).names.lookup x=some kk->∃k0,sc.names.lookup x=some k0∧(kk=k0∨(k0 = .free∧kk = .cell)):=fun x kk h=>by
  have q:=z4F X.env x sc.names
  have h':(sc.names.map fun(n,k)=>if(k==NameKind.free&&X.env.scope.kind == .function&&X.env.kindOf n==some .cell)then(n,NameKind.cell)else(n,k)).lookup x=some kk:=h
  rw[q]at h'
  cases e:sc.names.lookup x with
  |none=>rw[e]at h';cases h'
  |some k0=>
   rw[e]at h'
   simp only[bx,Option.some.injEq]at h'
   refine⟨k0,rfl,?_⟩
   split at h'
   ·rename_i hc
    simp at hc
    exact .inr ⟨hc.1.1,h'.symm⟩
   ·exact .inl h'.symm
 refine⟨⟨I.ok.mod,S.kind,I.ok.glob,I.ok.blt,am _,?inj,?has,?cab,I.ok.hd,I.ok.frames,.inl rfl,?exf,I.bs,aG I.ok.bsz I.sz,?noex,?exfs,I.stack,I.stkFree⟩,
  rfl,I.bare,Un.kept keeps,⟨_,hns,?loc⟩,?cell,I.hok.fresh (am _),?freeC,?pin,I.hok.kept keeps,?len⟩
 case inj=>
  intro x y c h1 h2
  rcases cm x c (cl x c h1)with⟨_,l1,_⟩ | ⟨m1,e1⟩
  ·rcases cm y c (cl y c h2)with⟨_,l2,_⟩ | ⟨m2,e2⟩
   ·refine z3x (s.heap.objs.size+1) sc.names (s.heap.objs.size+1) (z3l X.env.cells sc.names []) (fun x y c hx _ hc=>?_) (fun p hp=>?_) x y c (cl x c h1) (cl y c h2) l1
    ·rcases z3V _ _ hx with z | ⟨z1,z2⟩
     ·exact nomatch z
     ·obtain⟨c',e⟩:=frc x z1
      rw[e]at z2
      have z3:c=c':=z2
      subst z3
      exact absurd (clt x c e) (eI.mpr (b7 hc))
    ·obtain⟨x,c⟩:=p
     rcases z3V _ _ hp with z | ⟨z1,z2⟩
     ·exact nomatch z
     ·obtain⟨c',e⟩:=frc x z1
      rw[e]at z2
      have z3:c=c':=z2
      subst z3
      exact cS (clt x c e)
   ·exact absurd (clt y c e2) (eI.mpr (b7 l1))
  ·rcases cm y c (cl y c h2)with⟨_,l2,_⟩ | ⟨m2,e2⟩
   ·exact absurd (clt x c e1) (eI.mpr (b7 l2))
   ·exact I.ok.inj x y c e1 e2
 case has=>
  intro x hx
  refine has x ?_
  rcases hx with hx | hx
  ·obtain⟨k0,e,h⟩:=kd x _ hx
   rcases h with h | ⟨h,_⟩
   ·subst h;exact .inl (PySem.mem_of_lookup e)
   ·subst h;exact .inr (PySem.mem_of_lookup e)
  ·obtain⟨k0,e,h⟩:=kd x _ hx
   rcases h with h | ⟨_,h⟩
   ·subst h;exact .inr (PySem.mem_of_lookup e)
   ·cases h
 case cab=>
  intro x c hfn h
  have hfn':sc.names.lookup x=some NameKind.cell:=of_decide_eq_true hfn
  rcases cm x c (cl x c h)with⟨_,l,_⟩ | ⟨m,_⟩
  ·exact b7 l
  ·rw[S.look m]at hfn';cases hfn'
 case exf=>
  intro b hb
  refine⟨aH (hlt b hb),fun x c h=>?_⟩
  rcases cm x c (cl x c h)with⟨_,l,_⟩ | ⟨_,e⟩
  ·intro z
   subst z
   exact absurd (hlt c hb) (eI.mpr (b7 l))
  ·exact(hf b hb).2.2.2.2.1 x c e
 case noex=>
  intro b o e hb
  rcases (hf b hb).2.2.2.1 with z | z
  ·exact I.ok.noex b o e z
  ·exact absurd (aK (Heap.lt_size e) (aG I.ok.bsz z)) (bS _)
 case exfs=>exact fun b hb z=>(ao.mp (I.stkSub b z)).elim (hf b hb).2.1 (hf b hb).2.2.1
 case loc=>
  intro i y v h1 h2 h3
  have hl:=I.len
  by_cases hi:i<σ.length
  ·rw[ba hi]at h2
   have q:=aI.mp S.nm i (ak.mpr (by omega))
   have h1':N'[i]? = some y:=h1
   simp only[h1',Bool.or_eq_true,aE,decide_eq_true_eq]at q
   rcases q with q | ⟨q1,q2⟩
   ·exfalso
    rcases h3 with z | z | z <;> (obtain⟨k0,e,_⟩:=kd y _ z;rw[q]at e;cases e)
   ·have hm:=PySem.mem_of_lookup q1
    obtain⟨m,hn,hloc⟩:=I.loc
    have kk:=S.fr hm
    obtain⟨u,r,l⟩:=hloc i y v q2 h2 (kk.elim (fun z=>.inr (.inl z)) fun z=>.inr (.inr z))
    refine⟨u,r,.inr ⟨?_,?_⟩⟩
    ·rcases h3 with z | z | z
     ·obtain⟨k0,e,h⟩:=kd y _ z
      rw[q1]at e
      cases e
      rcases h with h | ⟨_,h⟩ <;> cases h
     ·exact .inl z
     ·exact .inr z
    ·rcases l with⟨l,_⟩ | ⟨_,c,ec,hc⟩
     ·rcases kk with z | z <;> (rw[z]at l;cases l)
     ·obtain⟨c',e'⟩:=has y (.inr hm)
      refine⟨c',e',?_⟩
      rcases cm y c' (cl y c' e')with⟨m',_⟩ | ⟨_,e2⟩
      ·have:=S.look m'
       rw[q1]at this
       cases this
      ·rw[ec]at e2
       cases e2
       exact hc.keeps keeps
  ·rw[bg (by omega),bA]at h2
   split at h2 <;> cases h2
 case cell=>
  intro x c h
  rcases cm x c (cl x c h)with⟨_,_,q⟩ | ⟨_,e⟩
  ·exact⟨_,q⟩
  ·obtain⟨v,q⟩:=I.cell x c e
   exact⟨v,q.keeps keeps⟩
 case freeC=>
  intro x c h
  rcases cm x c (cl x c h)with⟨_,l,_⟩ | ⟨_,e⟩
  ·exact I.hok.fresh (b7 l)
  ·exact I.freeC x c e
 case pin=>
  intro p hp
  have hp':p∈X.pn++pins:=by
   rcases au.mp hp with z | z
   ·exact z
   ·exact nomatch z
  obtain⟨e,n,ne,nf,d⟩:=I.pin p hp'
  exact⟨keeps _ _ e,n,aH (Heap.lt_size e),fun z=>(ao.mp (I.stkSub p.1 z)).elim ne nf,d⟩
 case len=>
  show _=N'.length
  rw[aD,c6,S.len,I.len]
theorem y2d{σ':St}{H':Hp}{s':Shared}(I:Inv X pins σ H s)(hf:∀b∈fp,y2A X pins H b)(J:Inv (z0E X N' sc s H fp pins E) [] σ' H' s'):Inv X pins σ H' s':=
 I.call' J.os J.base J.hok J.bare fun b hb=>⟨(hf b hb).2.2.2.1,(hf b hb).2.1,(hf b hb).2.2.2.2.1,(hf b hb).2.2.2.2.2⟩
theorem y8M{H':Hp}{s':Shared}{h':Heap}(I:Inv X pins σ H s)(J:Inv X pins σ H' s')(hn:H' s.heap.objs.size=none)(hb:Heap.SameBut s.heap.objs.size s'.heap h'):Inv X pins σ H' { s' with heap:=h' }:=by
 refine J.turned (t':=s'.toks) (it:=s.heap.objs.size) (fun b o hne e=>(hb.2 b hne).trans e) hn (cL I.lt) (.inr I.sz) (fun x c e=>?_) fun p hp=>?_
 ·obtain⟨v,q⟩:=I.cell x c e
  exact aH q.lt
 ·exact aH (Heap.lt_size (I.pin p hp).1)
end
theorem y1k{prog:dw}{w:fE}{A:Around}{R:Result->Shared->Prop}{s:Shared}{elt target iter:Expr}{ifs:List Expr}{scope:fO}{pos:Pos}{it acc:Value}{env:Env}(I:Nat->Shared->Prop)
  (turn:∀n s,I n s->wpAny (model prog w) A (pyNext it) (fun r s₁=>match r with
   |none=>R (.ok .next) s₁
   |some v=>wpAny (model prog w) A (letOwnedTupleGo target it v) (fun _ s₁'=>wpAny (model prog w) A (fP target env v) (fun _ s₂=>
     wpAny (model prog w) A (forIn ifs true fun c r=>if r=true then do let ok ←isTrue c env (eval c env);pure (ForInStep.yield ok)else pure (ForInStep.yield r)) (fun ok s₃=>
      if ok=true then wpAny (model prog w) A (eval elt env) (fun x s₄=>
       wpAny (model prog w) A (call (.builtin "list.append") [acc,x]) (fun _ s₅=>∃m,m<n∧I m s₅) (notedBy (model prog w) A env fun e s'=>R (.error e) s') s₄) (notedBy (model prog w) A env fun e s'=>R (.error e) s') s₃
      else ∃m,m<n∧I m s₃) (notedBy (model prog w) A env fun e s'=>R (.error e) s') s₂) (notedBy (model prog w) A env fun e s'=>R (.error e) s') s₁') (notedBy (model prog w) A env fun e s'=>R (.error e) s') s₁) (notedBy (model prog w) A env fun e s'=>R (.error e) s') s)
  (n:Nat) (h:I n s):
  codeAny (model prog w) A (.compLoop (.ListComp elt [⟨target,iter,ifs,0⟩] scope pos) 0 it acc env) R s:=by
 refine codeAny_loop rfl I (fun n s hI=>?_) n h
 show wpAny _ A ((compTurn (.ListComp elt [⟨target,iter,ifs,0⟩] scope pos) 0 it acc env).onRaise (fun x=>do noteFrame x env;theTreesLotGoes x)) _ _ s
 refine wpAny_noted ?_
 rw[compTurn_list]
 refine wpAny_bind (wpAny_standAt (wpAny_bind (wpAny_mono (turn n s hI) (fun r s₁ h₁=>?_) fun _ _ h'=>h')))
 cases r with
 |none=>exact wpAny_pure h₁
 |some v=>
  refine wpAny_bind (wpAny_mono h₁ (fun _ s₁' h₁'=>?_) fun _ _ h'=>h')
  refine wpAny_bind (wpAny_mono h₁' (fun _ s₂ h₂=>wpAny_bind (wpAny_mono h₂ (fun ok s₃ h₃=>?_) fun _ _ h'=>h')) fun _ _ h'=>h')
  cases ok with
  |false=>exact wpAny_pure ⟨rfl,h₃⟩
  |true=>
   exact wpAny_bind (wpAny_bind (wpAny_mono h₃ (fun x s₄ h₄=>wpAny_bind (wpAny_mono h₄ (fun _ s₅ h₅=>wpAny_pure (wpAny_pure ⟨rfl,h₅⟩)) fun _ _ h'=>h')) fun _ _ h'=>h'))
def y9V(X:Cx)(ifs:List Expr)(t:TT):Prop:=
 ∀(pins:List (Addr×Obj)) (s:Shared) (σ:St) (H:Hp) (Q:Bool->Hp->Prop),Inv X pins σ H s->t σ H Q →
  wpAny (model X.prog X.w) X.A (forIn ifs true fun c r=>if r=true then do let ok ←isTrue c X.env (eval c X.env);pure (ForInStep.yield ok)else pure (ForInStep.yield r)) (TP X pins σ Q) X.xe s
def tYes:TT:=fun _ H Q=>Q true H
theorem x2f{X:Cx}:y9V X [] tYes:=fun _ _ _ H _ I h=>wpAny_tests_nil ⟨H,I,h⟩
theorem x2B{X:Cx}{c:Expr}{t:TT}(h:PT X c t):y9V X [c] t:=fun pins s σ H Q I hw=>wpAny_tests_one (h pins s σ H Q I hw)
def y7T(wi:TI)(g:TG)(tc:TT)(te:TE)(k:Nat):TE:=fun σ H Q=>wi σ H fun J H1=>∀D,H1 D=none →
 ∃W:Nat->Nat->St->Hp->Prop,(∃m,W 0 m (σ++ai k none) (upd H1 D (.lst [])))∧∀i m σ' H',W i m σ' H' →
  (J.stop i H'∧Q (.ref D) H')∨(J.go i H'∧∃N:St->Hp->Prop,(∀σ'' H'',N σ'' H''->∃m',m'<m∧W (i+1) m' σ'' H'') ∧
   ∀x H2,J.yld i H' x H2->g x σ' H2 fun σ2 H3=>tc σ2 H3 fun b H4=>if b=true then te σ2 H4 fun y H5=>∃ys,H5 D=some (.lst ys)∧ys.length<sizeLine∧N σ2 (upd H5 D (.lst (ys++[y])))else N σ2 H4)
structure PComp(X:Cx)(N':List Str)(sc:fO)(tg:Expr)(ifs:List Expr)(elt:Expr)(g:TG)(tc:TT)(te:TE):Prop where
 pg:∀s H fp pins E,PG (z0E X N' sc s H fp pins E) tg g
 pt:∀s H fp pins E,y9V (z0E X N' sc s H fp pins E) ifs tc
 pe:∀s H fp pins E,PE (z0E X N' sc s H fp pins E) elt te
section
variable{X:Cx}{N':List Str}{k:Nat}{sc:fO}{tg iter elt:Expr}{ifs:List Expr}{pos:Pos}{g:TG}{tc:TT}{te:TE}{wi:TI}
theorem z8M{pins:List (Addr×Obj)}{σ:St}{H:Hp}{s:Shared}{J:It}{fp:List Addr}{it:Addr}{tn:Nat->Heap->Prop}{Q:VK}{E:Value->Shared->Prop}{RR:Value->Addr->Result->Shared->Prop}
  (hc:X.calm=true) (S:CompScope X.N X.env.scope.names N' k sc) {PC:Shared->Hp->(Value->Shared->Prop)->Prop} (P:∀s H E,PC s H E->PG (z0E X N' sc s H fp pins E) tg g∧y9V (z0E X N' sc s H fp pins E) ifs tc∧PE (z0E X N' sc s H fp pins E) elt te)
  (hP:∀D s3 H3,Inv X pins σ H3 s3->(∀b∈fp,y2A X pins H3 b)->PC s3 H3 (notedBy (model X.prog X.w) X.A (compEnvC sc (cellsFrom (s3.heap.objs.size+1) sc.names (z3l X.env.cells sc.names [])) s3.heap.objs.size X.env) fun e s'=>RR (.ref D) s3.heap.objs.size (.error e) s')) (I:Inv X pins σ H s) (T:Turn X.prog X.w X.K tg J fp it tn) (st:tn 0 s.heap) (hf:∀b∈fp,y2A X pins H b)
  (hW:∀D,H D=none->∃W:Nat->Nat->St->Hp->Prop,(∃m,W 0 m (σ++ai k none) (upd H D (.lst [])))∧∀i m σ' H',W i m σ' H' →
   (J.stop i H'∧Q (.ref D) H')∨(J.go i H'∧∃N:St->Hp->Prop,(∀σ'' H'',N σ'' H''->∃m',m'<m∧W (i+1) m' σ'' H'') ∧
    ∀x H2,J.yld i H' x H2->g x σ' H2 fun σ2 H3=>tc σ2 H3 fun b H4=>if b=true then te σ2 H4 fun y H5=>∃ys,H5 D=some (.lst ys)∧ys.length<sizeLine∧N σ2 (upd H5 D (.lst (ys++[y])))else N σ2 H4))
  (hR:∀D s3 H3 σ' H' s' E',Inv X pins σ H3 s3->(∀b∈fp,y2A X pins H3 b)->Inv (z0E X N' sc s3 H3 fp pins E') [] σ' H' s'->Q (.ref D) H'->RR (.ref D) s3.heap.objs.size (.ok .next) s'):
  wpAny (model X.prog X.w) X.A (newList []) (fun acc s₃=>wpAny (model X.prog X.w) X.A (newFunctionEnv sc X.env.globals (z3l X.env.cells sc.names []) [] X.env.qual none .none (some X.env)) (fun cenv s₄=>
   codeAny (model X.prog X.w) X.A (.compStart (.ListComp elt [⟨tg,iter,ifs,0⟩] sc pos) 0 (.ref it) acc { cenv with scope:=relabel sc X.env }) (RR acc cenv.locals) s₄) E s₃) E s:=by
 obtain⟨W,⟨m0,w0⟩,step⟩:=hW s.heap.objs.size (I.hok.fresh (am _))
 have I3:Inv X pins σ (upd H s.heap.objs.size (.lst [])) { s with heap:=s.heap.push { cls:=.type "list",data:=.seq ([]:List Value).toArray },toks:=s.toks }:=I.lnew (t':=s.toks) .nil (bu _)
 have lt0:∀b∈fp,b<s.heap.objs.size:=fun b hb=>by
  obtain⟨o,e,_⟩:=T.obj 0 _ st b hb
  exact Heap.lt_size e
 have hf3:∀b∈fp,y2A X pins (upd H s.heap.objs.size (.lst [])) b:=fun b hb=>⟨by rw[z0v (aH (lt0 b hb))];exact(hf b hb).1,(hf b hb).2⟩
 have lt3:∀b∈fp,b<(s.heap.push { cls:=.type "list",data:=.seq ([]:List Value).toArray }).objs.size:=fun b hb=>by
  rw[Heap.size_push]
  exact cS (lt0 b hb)
 refine wpAny_newObj_type (z3b ?_)
 generalize hs3:({ s with heap:=s.heap.push { cls:=.type "list",data:=.seq ([]:List Value).toArray },toks:=s.toks }:Shared)=s3 at I3
 have hsh:s3.heap=s.heap.push { cls:=.type "list",data:=.seq ([]:List Value).toArray }:=by rw[←hs3]
 rw[←hsh]at lt3
 have st3:tn 0 s3.heap:=T.keep _ _ _ st fun b _ o e=>by rw[hsh];exact Heap.get?_push_of_some _ e
 show codeAny _ _ (.compStart _ 0 (.ref it) (.ref s.heap.objs.size) (compEnvC sc (cellsFrom (s3.heap.objs.size+1) sc.names (z3l X.env.cells sc.names [])) s3.heap.objs.size X.env)) (RR (.ref s.heap.objs.size) s3.heap.objs.size)
  { s3 with heap:=pushCells (s3.heap.push { cls:=.type "dict",data:=.dict #[] }) sc.names }
 generalize hD:s.heap.objs.size=D at *
 generalize hEn:(notedBy (model X.prog X.w) X.A (compEnvC sc (cellsFrom (s3.heap.objs.size+1) sc.names (z3l X.env.cells sc.names [])) s3.heap.objs.size X.env) fun e s'=>RR (.ref D) s3.heap.objs.size (.error e) s')=En
 have I4:Inv (z0E X N' sc s3 (upd H D (.lst [])) fp pins En) [] (σ++ai k none) (upd H D (.lst [])) { s3 with heap:=pushCells (s3.heap.push { cls:=.type "dict",data:=.dict #[] }) sc.names }:=x2v S I3 hf3 lt3
 have st4:tn 0 (pushCells (s3.heap.push { cls:=.type "dict",data:=.dict #[] }) sc.names):=T.keep _ _ _ st3 fun b _ o e=>pushCells_keeps _ _ _ _ (Heap.get?_push_of_some _ e)
 have stat:∀{H':Hp},(∀b∈fp,H' b=none)->∀b∈fp,y2A (z0E X N' sc s3 (upd H D (.lst [])) fp pins En) [] H' b:=fun hn b hb=>
  ⟨hn b hb,(I4.ok.exf b hb).1,I4.ok.exfs b hb,.inl hb,(I4.ok.exf b hb).2,fun p hp=>(hf3 b hb).2.2.2.2.2 p (by
   rcases au.mp hp with z | z
   ·exact z
   ·exact nomatch z)⟩
 obtain⟨Pg,Pt,Pe⟩:=P s3 (upd H D (.lst [])) En (by rw[←hEn];exact hP D s3 _ I3 hf3)
 have loop:codeAny (model X.prog X.w) X.A (.compLoop (.ListComp elt [⟨tg,iter,ifs,0⟩] sc pos) 0 (.ref it) (.ref D) (z0E X N' sc s3 (upd H D (.lst [])) fp pins En).env) (RR (.ref D) s3.heap.objs.size)
   { s3 with heap:=pushCells (s3.heap.push { cls:=.type "dict",data:=.dict #[] }) sc.names }:=by
  refine y1k (fun n s'=>∃i σ' H',Inv (z0E X N' sc s3 (upd H D (.lst [])) fp pins En) [] σ' H' s'∧tn i s'.heap∧(∀b∈fp,H' b=none)∧W i n σ' H') ?_ m0 ⟨0,_,_,I4,st4,fun b hb=>(hf3 b hb).1,w0⟩
  have eEn:(notedBy (model X.prog X.w) X.A (z0E X N' sc s3 (upd H D (.lst [])) fp pins En).env fun e s'=>RR (.ref D) s3.heap.objs.size (.error e) s')=En:=hEn
  rw[eEn]
  rintro n s5 ⟨i,σ5,H5,I5,st5,fr5,w5⟩
  rcases step i n σ5 H5 w5 with⟨stop,qn⟩ | ⟨go,N,hN,turn⟩
  ·refine thn (T.done (z0E X N' sc s3 (upd H D (.lst [])) fp pins En) rfl rfl rfl hc i [] s5 σ5 H5 En I5 (stat fr5) st5 stop) fun r s6 ⟨hr,I6⟩=>?_
   subst hr
   exact hR D s3 _ σ5 H5 s6 En I3 hf3 I6 qn
  ·refine thn (T.item (z0E X N' sc s3 (upd H D (.lst [])) fp pins En) rfl rfl rfl hc i [] s5 σ5 H5 En I5 (stat fr5) st5 go) fun r s6 ⟨u,hr,h6⟩=>?_
   subst hr
   refine thn h6 fun _ s7 ⟨x,H7,I7,r7,y7,st7,fr7⟩=>?_
   have I7':=I7.pinned (stat fr7) (T.obj _ _ st7)
   have back:∀{σ9:St} {H9:Hp} {s9:Shared},Inv (z0E X N' sc s3 (upd H D (.lst [])) fp pins En) ([]++y1f fp s7.heap) σ9 H9 s9->N σ9 H9 →
     ∃m,m<n∧∃i σ' H',Inv (z0E X N' sc s3 (upd H D (.lst [])) fp pins En) [] σ' H' s9∧tn i s9.heap∧(∀b∈fp,H' b=none)∧W i m σ' H':=fun {σ9 H9 s9} I9 n9=>by
    obtain⟨m',hm,w9⟩:=hN σ9 H9 n9
    refine⟨m',hm,i+1,σ9,H9,I9.unpinned,T.keep _ _ _ st7 fun b hb o e=>(I9.pin (b,o) (aQ _ (aQ _ (z4y hb e)))).1,fun b hb=>?_,w9⟩
    obtain⟨o,e,d⟩:=T.obj _ _ st7 b hb
    exact(I9.pin (b,o) (aQ _ (aQ _ (z4y hb e)))).2.1
   refine thn (Pg _ s7 σ5 H7 x u _ I7' r7 (turn x H7 y7)) fun _ s8 ⟨σ8,H8,I8,q8⟩=>?_
   refine thn (Pt _ s8 σ8 H8 _ I8 q8) fun ok s9 ⟨H9,I9,q9⟩=>?_
   cases ok with
   |false=>
    rw[if_neg ar]at q9
    rw[if_neg ar]
    exact back I9 q9
   |true=>
    rw[if_pos rfl]at q9
    rw[if_pos rfl]
    refine thn (Pe _ s9 σ8 H9 _ I9 q9) fun y s10 ⟨yv,H10,I10,r10,ys,hys,hl,q10⟩=>?_
    refine thn (z1y _ s10 σ8 H10 (.ref D) [yv] (.ref D) [y] (fun _ H'=>N σ8 H') I10 rfl (.cons r10 .nil) ⟨D,ys,yv,rfl,rfl,hys,hl,q10⟩) fun _ s11 ⟨_,H11,I11,_,q11⟩=>?_
    exact back I11 q11
 exact codeAny_compStart_list loop (T.self X.A 0 _ _ _ st4 loop)
theorem CompScope.names'{N:List Str}{out:List (Str×NameKind)}(S:CompScope N out N' k sc):∀x∈sc.names,x.2 = .local->sc.names.lookup x.1=some .local:=fun x hx e=>by
 obtain⟨n,kd⟩:=x
 have e':kd = .local:=e
 subst e'
 exact S.look hx
theorem y3T(hc:X.calm=true)(S:CompScope X.N X.env.scope.names N' k sc)(hi:PI X tg iter wi)(P:PComp X N' sc tg ifs elt g tc te)(hs:∀x,foldedSetIterable iter X.env x=pure x:=by intro _;rfl):
  PE X (.ListComp elt [⟨tg,iter,ifs,0⟩] sc pos) (y7T wi g tc te k):=by
 intro pins s σ H Q I h
 rw[eval_ListComp]
 refine wpAny_comprehension_free (use:=none) rfl hs (z3N fun n hn=>I.ok.has n (S.fr hn)) S.kind S.names' (thn (hi pins s σ H _ I h) fun v s1 h1=>thn h1 fun itv s2 h2=>?_)
 obtain⟨it,fp,tn,J,H2,e,I2,T,st2,f2,hW⟩:=h2
 subst e
 refine z8M (Q:=Q) (RR:=fun acc C=>compPost (model X.prog X.w) X.A X.xe none (EP X pins σ Q) acc C) (PC:=fun _ _ _=>True) hc S (fun s H E _=>⟨P.pg s H _ _ E,P.pt s H _ _ E,P.pe s H _ _ E⟩) (fun _ _ _ _ _=>trivial) I2 T st2 f2 hW ?_
 intro D s3 H3 σ' H' s' E' I3 f3 J' q
 obtain⟨m,hn,_⟩:=J'.loc
 exact⟨m,hn,fun h' hb=>⟨.ref D,H',y8M I3 (y2d I3 f3 J') J'.free hb,rfl,q⟩⟩
theorem x0O{i:Nat}{y:Str}{py spos:Pos}(hc:X.calm=true)(S:CompScope X.N X.env.scope.names N' k sc)(hN:X.N.Nodup)(hy:X.N[i]? = some y)(hyl:X.env.scope.names.lookup y=some .local)(hi:PI X tg iter wi)(P:PComp X N' sc tg ifs elt g tc te)
  (hsw:swapsWith (.ListComp elt [⟨tg,iter,ifs,0⟩] sc pos) (some (.Name y py)) spos.line X.env=pure true:=by rfl) (hs:∀x,foldedSetIterable iter X.env x=pure x:=by intro _;rfl):
  PS X (.Assign [.Name y py] (.ListComp elt [⟨tg,iter,ifs,0⟩] sc pos) spos) (tAsg (y7T wi g tc te k) (z2Z i)):=by
 intro pins s σ H D I h
 rw[exec_Assign_Name_used _ _ _ _ hsw]
 refine wpAny_bind (wpAny_standAt (wpAny_bind ?_))
 show wpAny _ X.A (do let _ ←comprehension (.ListComp elt [⟨tg,iter,ifs,0⟩] sc pos) sc X.env _ (newList []) false (eval iter X.env) (some (fP (.Name y py) X.env))) _ _ s
 refine wpAny_bind (wpAny_mono (wpAny_comprehension_free (use:=some (fP (.Name y py) X.env)) (Q:=fun _ s'=>SP X pins D .next s') rfl hs (z3N fun n hn=>I.ok.has n (S.fr hn)) S.kind S.names'
  (thn (hi pins s σ H _ I h) fun v s1 h1=>thn h1 fun itv s2 h2=>?_)) (fun _ s' hq=>wpAny_pure (wpAny_pure hq)) fun _ _ e=>e)
 obtain⟨it,fp,tn,J,H2,e,I2,T,st2,f2,hW⟩:=h2
 subst e
 refine z8M (Q:=fun v H'=>D.nx (σ.set i (some v)) H') (RR:=fun acc C=>compPost (model X.prog X.w) X.A X.xe (some (fP (.Name y py) X.env)) (fun _ s'=>SP X pins D .next s') acc C) (PC:=fun _ _ _=>True) hc S (fun s H E _=>⟨P.pg s H _ _ E,P.pt s H _ _ E,P.pe s H _ _ E⟩) (fun _ _ _ _ _=>trivial) I2 T st2 f2 hW ?_
 intro a s3 H3 σ' H' s' E' I3 f3 J' q
 have J2:=y2d I3 f3 J'
 obtain⟨m,hn,_⟩:=J'.loc
 show wpAny _ X.A (fP (.Name y py) X.env (.ref a)) _ _ _
 refine wpAny_assign_Name (y1Q J2 hN hy (.inl hyl) (v:=.ref a) rfl (fun s4 I4 hsb=>?_) (.inr hyl))
 obtain⟨b,hb,hb'⟩:=hsb
 have hne:b≠s3.heap.objs.size:=by
  rcases hb' with z | z
  ·rw[z];exact aH I3.lt
  ·obtain⟨v,w'⟩:=I3.cell y b z
   exact aH w'.lt
 refine⟨m,hn.sameBut hb (Ne.symm hne),fun h' hb2=>⟨_,H',?_,q⟩⟩
 have I3':Inv X pins (σ.set i (some (.ref a))) H3 s3∨True:=.inr trivial
 refine I4.turned (t':=s4.toks) (it:=s3.heap.objs.size) (fun b o hne e=>(hb2.2 b hne).trans e) J'.free (cL I3.lt) (.inr I3.sz) (fun x c e=>?_) fun p hp=>?_
 ·obtain⟨v,q⟩:=I3.cell x c e
  exact aH q.lt
 ·exact aH (Heap.lt_size (I3.pin p hp).1)
end
inductive D where
 |non | bl (b:Bool) | int (i:Int) | str (x:Str) | lst (xs:List D) | tup (xs:List D) | scr (ns:List Int) | dct (ks:List Key) (xs:List D) | exc (x:Str) | obj (x:Str) (a:Addr) (ks:List Str) (ds:List D) | cel (a:Addr) (ds:List D)
def z4W(K:aa)(C:Addr):Bool:=aU K (.ref C) "__getattribute__" == some (some (.builtin "BaseException.__getattribute__"))&&aU K (.ref C) "__getattr__" == some none&&bL K C (.type "BaseException")==some true&&(dY K C).isSome&&aU K (.ref C) "__class__" == some (some (.builtin "object.__class__")) &&
 bX K (.builtin "object.__class__") "__get__" == some (some (.builtin "getset_descriptor.__get__"))&&cE K (.builtin "object.__class__")==some true&&bL K C (.type "object")==some true &&
 ["bool", "int", "str", "list", "tuple", "dict"].all fun T=>aN K (.ref C) (.type T)==some false
def y6C(K:aa)(C:Addr)(ks:List Str):Bool:=dm K C Str.empty&&e8 K C&&eZ K C&&aU K (.ref C) "__setattr__" == some (some (.builtin "object.__setattr__")) &&
 aU K (.ref C) "__class__" == some (some (.builtin "object.__class__"))&&bX K (.builtin "object.__class__") "__get__" == some (some (.builtin "getset_descriptor.__get__"))&&cE K (.builtin "object.__class__")==some true&&bL K C (.type "object")==some true &&
 (["bool", "int", "str", "list", "tuple", "dict"].all fun T=>aN K (.ref C) (.type T)==some false)&&ks.all fun f=>aU K (.ref C) f==some none
def isX(a C:Addr)(h:Heap):Prop:=∃o,h.get? a=some o∧o.cls = .ref C∧o.dict=none∧PySem.W.notCls o=true
def SqF(K:aa)(H:Hp)(a:Addr)(xs:List V):Prop:=
 (∃o,H a=some (.frz o (.lst xs)))∨∃(o:Obj) (its:Array Value) (n:Nat),K.lookup a=some o∧o.cls = .type "list" ∧ o.dict=none∧o.data = .seq its n∧its.size≤sizeLine∧Vals xs its.toList
theorem SqF.sq{K:aa}{H:Hp}{a:Addr}{xs:List V}(h:SqF K H a xs):SqL K H a xs:=h.elim (fun z=>.inl (.inr z)) .inr
mutual
def Rep(K:aa)(H:Hp)(B:Addr->Prop):D->V->Prop
 |.non,v=>v = .non
 |.bl b,v=>v = .bl b
 |.int i,v=>v = .int i
 |.str x,v=>v = .str x
 |.lst ds,v=>∃a xs,v = .ref a∧¬ B a∧H a=some (.lst xs)∧Reps K H B ds xs
 |.tup ds,v=>∃a xs,v = .ref a∧SqT K H a xs∧Reps K H B ds xs
 |.scr ns,v=>∃a,v = .ref a∧SqF K H a (ns.map V.int)
 |.dct ks ds,v=>∃a kvs,v = .ref a∧¬ B a∧H a=some (.dK kvs)∧kvs.map (·.1)=ks∧Reps K H B ds (kvs.map (·.2))
 |.exc x,v=>∃a C,v = .ref a∧¬ B a∧H a=some (.ext (isX a C))∧aA K mainGlobals x=some (some (.ref C))∧z4W K C=true
 |.obj x a ks ds,v=>∃C dx fs,¬ B a∧H a=some (.ins C dx fs)∧(v = .ref a∧aA K mainGlobals x=some (some (.ref C))∧y6C K C ks=true∧fs.map (·.1)=ks)∧Reps K H B ds (fs.map (·.2))
 |.cel a ds,v=>∃xs,¬ B a∧H a=some (.lst xs)∧v = .ref a∧Reps K H B ds xs
def Reps(K:aa)(H:Hp)(B:Addr->Prop):List D->List V->Prop
 |[],xs=>xs=[]
 |d::ds,xs=>∃x r,xs=x::r∧Rep K H B d x∧Reps K H B ds r
end
mutual
def Tree(K:aa)(H:Hp):D->V->List Addr->Prop
 |.non,v,A=>v = .non∧A=[]
 |.bl b,v,A=>v = .bl b∧A=[]
 |.int i,v,A=>v = .int i∧A=[]
 |.str x,v,A=>v = .str x∧A=[]
 |.lst ds,v,A=>∃a xs B,v = .ref a∧H a=some (.lst xs)∧Trees K H ds xs B∧A=a::B
 |.tup ds,v,A=>∃a xs,v = .ref a∧SqT K H a xs∧Trees K H ds xs A
 |.scr ns,v,A=>(∃a,v = .ref a∧SqF K H a (ns.map V.int))∧A=[]
 |.dct ks ds,v,A=>∃a kvs B,v = .ref a∧H a=some (.dK kvs)∧kvs.map (·.1)=ks∧Trees K H ds (kvs.map (·.2)) B∧A=a::B
 |.exc x,v,A=>∃a C,v = .ref a∧H a=some (.ext (isX a C))∧aA K mainGlobals x=some (some (.ref C))∧z4W K C=true∧A=[a]
 |.obj x a ks ds,v,A=>∃C dx fs A1,H a=some (.ins C dx fs)∧(v = .ref a∧aA K mainGlobals x=some (some (.ref C))∧y6C K C ks=true∧fs.map (·.1)=ks)∧Trees K H ds (fs.map (·.2)) A1∧A=a::A1
 |.cel a ds,v,A=>∃xs B,H a=some (.lst xs)∧v = .ref a∧Trees K H ds xs B∧A=a::B
def Trees(K:aa)(H:Hp):List D->List V->List Addr->Prop
 |[],xs,A=>xs=[]∧A=[]
 |d::ds,xs,A=>∃x r B C,xs=x::r∧Tree K H d x B∧Trees K H ds r C∧A=B++C
end
mutual
def D.imm:D->Bool
 |.non=>true
 |.bl _=>true
 |.int _=>true
 |.str _=>true
 |.lst _=>false
 |.tup ds=>z1t ds
 |.scr _=>true
 |.dct _ _=>false
 |.exc _=>false
 |.obj _ _ _ _=>false
 |.cel _ _=>false
def z1t:List D->Bool
 |[]=>true
 |d::ds=>d.imm&&z1t ds
end
theorem Same.tup{K:aa}{H H':Hp}{a:Addr}{xs:List V}(e:Same H H')(h:SqT K H a xs):SqT K H' a xs:=by
 rcases h with (h | ⟨o,h⟩) | h
 ·exact .inl (.inl (e _ _ h))
 ·exact .inl (.inr ⟨o,e _ _ h⟩)
 ·exact .inr h
section
variable{K:aa}{H H':Hp}{B B':Addr->Prop}
structure KeepI(K:aa)(H H':Hp):Prop where
 st:∀a xs,SqT K H a xs->SqT K H' a xs
 sf:∀a xs,SqF K H a xs->SqF K H' a xs
structure Keep(K:aa)(B:Addr->Prop)(H H':Hp):Prop where
 sl:∀a xs,¬ B a->H a=some (.lst xs)->H' a=some (.lst xs)
 st:∀a xs,SqT K H a xs->SqT K H' a xs
 sf:∀a xs,SqF K H a xs->SqF K H' a xs
 sd:∀a kvs,¬ B a->H a=some (.dK kvs)->H' a=some (.dK kvs)
 sx:∀a φ,¬ B a->H a=some (.ext φ)->H' a=some (.ext φ)
 si:∀a C dx fs,¬ B a->H a=some (.ins C dx fs)->H' a=some (.ins C dx fs)
theorem Keep.i(k:Keep K B H H'):KeepI K H H':=⟨k.st,k.sf⟩
mutual
theorem Rep.keep(k:Keep K B H H'):∀(d:D) {v:V},Rep K H B d v->Rep K H' B d v
 |.non,_,h=>h
 |.bl _,_,h=>h
 |.int _,_,h=>h
 |.str _,_,h=>h
 |.lst ds,_,h=>by
  unfold Rep at h ⊢
  obtain⟨a,xs,e,n,s,r⟩:=h
  exact⟨a,xs,e,n,k.sl a xs n s,Reps.keep k ds r⟩
 |.tup ds,_,h=>by
  unfold Rep at h ⊢
  obtain⟨a,xs,e,s,r⟩:=h
  exact⟨a,xs,e,k.st a xs s,Reps.keep k ds r⟩
 |.scr ns,_,h=>by
  unfold Rep at h ⊢
  obtain⟨a,e,s⟩:=h
  exact⟨a,e,k.sf a _ s⟩
 |.dct ks ds,_,h=>by
  unfold Rep at h ⊢
  obtain⟨a,kvs,e,n,s,q,r⟩:=h
  exact⟨a,kvs,e,n,k.sd a kvs n s,q,Reps.keep k ds r⟩
 |.exc _,_,h=>by
  unfold Rep at h ⊢
  obtain⟨a,C,e,n,s,r⟩:=h
  exact⟨a,C,e,n,k.sx a _ n s,r⟩
 |.obj x a ks ds,_,h=>by
  unfold Rep at h ⊢
  obtain⟨C,dx,fs,n,s,q,r1⟩:=h
  exact⟨C,dx,fs,n,k.si a C dx fs n s,q,Reps.keep k ds r1⟩
 |.cel a ds,_,h=>by
  unfold Rep at h ⊢
  obtain⟨xs,n,s,e,r⟩:=h
  exact⟨xs,n,k.sl a xs n s,e,Reps.keep k ds r⟩
theorem Reps.keep(k:Keep K B H H'):∀(ds:List D) {xs:List V},Reps K H B ds xs->Reps K H' B ds xs
 |[],_,h=>h
 |d::ds,_,h=>by
  unfold Reps at h ⊢
  obtain⟨x,r,e,h1,h2⟩:=h
  exact⟨x,r,e,Rep.keep k d h1,Reps.keep k ds h2⟩
end
mutual
theorem Rep.anti(hb:∀a,B' a->B a):∀(d:D) {v:V},Rep K H B d v->Rep K H B' d v
 |.non,_,h=>h
 |.bl _,_,h=>h
 |.int _,_,h=>h
 |.str _,_,h=>h
 |.lst ds,_,h=>by
  unfold Rep at h ⊢
  obtain⟨a,xs,e,n,s,r⟩:=h
  exact⟨a,xs,e,fun z=>n (hb a z),s,Reps.anti hb ds r⟩
 |.tup ds,_,h=>by
  unfold Rep at h ⊢
  obtain⟨a,xs,e,s,r⟩:=h
  exact⟨a,xs,e,s,Reps.anti hb ds r⟩
 |.scr _,_,h=>h
 |.dct ks ds,_,h=>by
  unfold Rep at h ⊢
  obtain⟨a,kvs,e,n,s,q,r⟩:=h
  exact⟨a,kvs,e,fun z=>n (hb a z),s,q,Reps.anti hb ds r⟩
 |.exc _,_,h=>by
  unfold Rep at h ⊢
  obtain⟨a,C,e,n,r⟩:=h
  exact⟨a,C,e,fun z=>n (hb a z),r⟩
 |.obj x a ks ds,_,h=>by
  unfold Rep at h ⊢
  obtain⟨C,dx,fs,n,s,q,r1⟩:=h
  exact⟨C,dx,fs,fun z=>n (hb a z),s,q,Reps.anti hb ds r1⟩
 |.cel a ds,_,h=>by
  unfold Rep at h ⊢
  obtain⟨xs,n,s,e,r⟩:=h
  exact⟨xs,fun z=>n (hb a z),s,e,Reps.anti hb ds r⟩
theorem Reps.anti(hb:∀a,B' a->B a):∀(ds:List D) {xs:List V},Reps K H B ds xs->Reps K H B' ds xs
 |[],_,h=>h
 |d::ds,_,h=>by
  unfold Reps at h ⊢
  obtain⟨x,r,e,h1,h2⟩:=h
  exact⟨x,r,e,Rep.anti hb d h1,Reps.anti hb ds h2⟩
end
mutual
theorem Rep.imm:∀(d:D) {v:V},d.imm=true->Rep K H B d v->Rep K H B' d v
 |.non,_,_,h=>h
 |.bl _,_,_,h=>h
 |.int _,_,_,h=>h
 |.str _,_,_,h=>h
 |.lst _,_,i,_=>by unfold D.imm at i;cases i
 |.dct _ _,_,i,_=>by unfold D.imm at i;cases i
 |.exc _,_,i,_=>by unfold D.imm at i;cases i
 |.obj _ _ _ _,_,i,_=>by unfold D.imm at i;cases i
 |.cel _ _,_,i,_=>by unfold D.imm at i;cases i
 |.tup ds,_,i,h=>by
  unfold D.imm at i
  unfold Rep at h ⊢
  obtain⟨a,xs,e,s,r⟩:=h
  exact⟨a,xs,e,s,Reps.imm ds i r⟩
 |.scr _,_,_,h=>h
theorem Reps.imm:∀(ds:List D) {xs:List V},z1t ds=true->Reps K H B ds xs->Reps K H B' ds xs
 |[],_,_,h=>h
 |d::ds,_,i,h=>by
  unfold z1t at i
  rw[aE]at i
  unfold Reps at h ⊢
  obtain⟨x,r,e,h1,h2⟩:=h
  exact⟨x,r,e,Rep.imm d i.1 h1,Reps.imm ds i.2 h2⟩
end
mutual
theorem Rep.immTree:∀(d:D) {v:V},d.imm=true->Rep K H B d v->Tree K H d v []
 |.non,_,_,h=>⟨h,rfl⟩
 |.bl _,_,_,h=>⟨h,rfl⟩
 |.int _,_,_,h=>⟨h,rfl⟩
 |.str _,_,_,h=>⟨h,rfl⟩
 |.lst _,_,i,_=>by unfold D.imm at i;cases i
 |.dct _ _,_,i,_=>by unfold D.imm at i;cases i
 |.exc _,_,i,_=>by unfold D.imm at i;cases i
 |.obj _ _ _ _,_,i,_=>by unfold D.imm at i;cases i
 |.cel _ _,_,i,_=>by unfold D.imm at i;cases i
 |.tup ds,_,i,h=>by
  unfold D.imm at i
  unfold Rep at h
  unfold Tree
  obtain⟨a,xs,e,s,r⟩:=h
  exact⟨a,xs,e,s,Reps.immTree ds i r⟩
 |.scr _,_,_,h=>⟨h,rfl⟩
theorem Reps.immTree:∀(ds:List D) {xs:List V},z1t ds=true->Reps K H B ds xs->Trees K H ds xs []
 |[],_,_,h=>⟨h,rfl⟩
 |d::ds,_,i,h=>by
  unfold z1t at i
  rw[aE]at i
  unfold Reps at h
  unfold Trees
  obtain⟨x,r,e,h1,h2⟩:=h
  exact⟨x,r,[],[],e,Rep.immTree d i.1 h1,Reps.immTree ds i.2 h2,rfl⟩
end
mutual
theorem Tree.rep:∀(d:D) {v:V} {A:List Addr},Tree K H d v A->(∀a∈A,¬ B a)->Rep K H B d v
 |.non,_,_,h,_=>h.1
 |.bl _,_,_,h,_=>h.1
 |.int _,_,_,h,_=>h.1
 |.str _,_,_,h,_=>h.1
 |.lst ds,_,_,h,n=>by
  unfold Tree at h
  unfold Rep
  obtain⟨a,xs,C,e,s,r,rfl⟩:=h
  exact⟨a,xs,e,n a af,s,Trees.rep ds r fun b hb=>n b (ae _ hb)⟩
 |.tup ds,_,_,h,n=>by
  unfold Tree at h
  unfold Rep
  obtain⟨a,xs,e,s,r⟩:=h
  exact⟨a,xs,e,s,Trees.rep ds r n⟩
 |.scr _,_,_,h,_=>h.1
 |.dct ks ds,_,_,h,n=>by
  unfold Tree at h
  unfold Rep
  obtain⟨a,kvs,C,e,s,q,r,rfl⟩:=h
  exact⟨a,kvs,e,n a af,s,q,Trees.rep ds r fun b hb=>n b (ae _ hb)⟩
 |.exc _,_,_,h,n=>by
  unfold Tree at h
  unfold Rep
  obtain⟨a,C,e,s,r1,r2,rfl⟩:=h
  exact⟨a,C,e,n a af,s,r1,r2⟩
 |.obj x a ks ds,_,_,h,n=>by
  unfold Tree at h
  unfold Rep
  obtain⟨C,dx,fs,A1,s,q,r1,rfl⟩:=h
  exact⟨C,dx,fs,n a af,s,q,Trees.rep ds r1 fun b hb=>n b (ae _ hb)⟩
 |.cel a ds,_,_,h,n=>by
  unfold Tree at h
  unfold Rep
  obtain⟨xs,C,s,e,r,rfl⟩:=h
  exact⟨xs,n a af,s,e,Trees.rep ds r fun b hb=>n b (ae _ hb)⟩
theorem Trees.rep:∀(ds:List D) {xs:List V} {A:List Addr},Trees K H ds xs A->(∀a∈A,¬ B a)->Reps K H B ds xs
 |[],_,_,h,_=>h.1
 |d::ds,_,_,h,n=>by
  unfold Trees at h
  unfold Reps
  obtain⟨x,r,C,C',e,h1,h2,rfl⟩:=h
  exact⟨x,r,e,Tree.rep d h1 fun b hb=>n b (b9 _ hb),Trees.rep ds h2 fun b hb=>n b (aQ _ hb)⟩
end
mutual
theorem Tree.keep(kt:KeepI K H H'):∀(d:D) {v:V} {A:List Addr},Tree K H d v A->(∀a∈A,∀o,H a=some o->H' a=some o)->Tree K H' d v A
 |.non,_,_,h,_=>h
 |.bl _,_,_,h,_=>h
 |.int _,_,_,h,_=>h
 |.str _,_,_,h,_=>h
 |.lst ds,_,_,h,n=>by
  unfold Tree at h ⊢
  obtain⟨a,xs,C,e,s,r,rfl⟩:=h
  exact⟨a,xs,C,e,n a af _ s,Trees.keep kt ds r fun b hb=>n b (ae _ hb),rfl⟩
 |.tup ds,_,_,h,n=>by
  unfold Tree at h ⊢
  obtain⟨a,xs,e,s,r⟩:=h
  exact⟨a,xs,e,kt.st a xs s,Trees.keep kt ds r n⟩
 |.scr _,_,_,h,_=>by
  unfold Tree at h ⊢
  obtain⟨⟨a,e,s⟩,q⟩:=h
  exact⟨⟨a,e,kt.sf a _ s⟩,q⟩
 |.dct ks ds,_,_,h,n=>by
  unfold Tree at h ⊢
  obtain⟨a,kvs,C,e,s,q,r,rfl⟩:=h
  exact⟨a,kvs,C,e,n a af _ s,q,Trees.keep kt ds r fun b hb=>n b (ae _ hb),rfl⟩
 |.exc _,_,_,h,n=>by
  unfold Tree at h ⊢
  obtain⟨a,C,e,s,r1,r2,rfl⟩:=h
  exact⟨a,C,e,n a af _ s,r1,r2,rfl⟩
 |.obj x a ks ds,_,_,h,n=>by
  unfold Tree at h ⊢
  obtain⟨C,dx,fs,A1,s,q,r1,rfl⟩:=h
  exact⟨C,dx,fs,A1,n a af _ s,q,Trees.keep kt ds r1 fun b hb=>n b (ae _ hb),rfl⟩
 |.cel a ds,_,_,h,n=>by
  unfold Tree at h ⊢
  obtain⟨xs,C,s,e,r,rfl⟩:=h
  exact⟨xs,C,n a af _ s,e,Trees.keep kt ds r fun b hb=>n b (ae _ hb),rfl⟩
theorem Trees.keep(kt:KeepI K H H'):∀(ds:List D) {xs:List V} {A:List Addr},Trees K H ds xs A->(∀a∈A,∀o,H a=some o->H' a=some o)->Trees K H' ds xs A
 |[],_,_,h,_=>h
 |d::ds,_,_,h,n=>by
  unfold Trees at h ⊢
  obtain⟨x,r,C,C',e,h1,h2,rfl⟩:=h
  exact⟨x,r,C,C',e,Tree.keep kt d h1 fun b hb=>n b (b9 _ hb),Trees.keep kt ds h2 fun b hb=>n b (aQ _ hb),rfl⟩
end
mutual
theorem Tree.held:∀(d:D) {v:V} {A:List Addr},Tree K H d v A->∀a∈A,∃o,H a=some o∧Mut (some o)
 |.non,_,_,h,a,ha=>by rw[h.2]at ha;cases ha
 |.bl _,_,_,h,a,ha=>by rw[h.2]at ha;cases ha
 |.int _,_,_,h,a,ha=>by rw[h.2]at ha;cases ha
 |.str _,_,_,h,a,ha=>by rw[h.2]at ha;cases ha
 |.lst ds,_,_,h,b,hb=>by
  unfold Tree at h
  obtain⟨a,xs,C,e,s,r,rfl⟩:=h
  rcases ao.mp hb with z | z
  ·subst z;exact⟨_,s,trivial⟩
  ·exact Trees.held ds r b z
 |.tup ds,_,_,h,b,hb=>by
  unfold Tree at h
  obtain⟨a,xs,e,s,r⟩:=h
  exact Trees.held ds r b hb
 |.scr _,_,_,h,a,ha=>by rw[h.2]at ha;cases ha
 |.dct ks ds,_,_,h,b,hb=>by
  unfold Tree at h
  obtain⟨a,kvs,C,e,s,q,r,rfl⟩:=h
  rcases ao.mp hb with z | z
  ·subst z;exact⟨_,s,trivial⟩
  ·exact Trees.held ds r b z
 |.exc _,_,_,h,b,hb=>by
  unfold Tree at h
  obtain⟨a,C,e,s,r1,r2,rfl⟩:=h
  rw[aq.mp hb]
  exact⟨_,s,trivial⟩
 |.obj x a ks ds,_,_,h,b,hb=>by
  unfold Tree at h
  obtain⟨C,dx,fs,A1,s,q,r1,rfl⟩:=h
  rcases ao.mp hb with z | z
  ·subst z;exact⟨_,s,trivial⟩
  ·exact Trees.held ds r1 b z
 |.cel a ds,_,_,h,b,hb=>by
  unfold Tree at h
  obtain⟨xs,C,s,e,r,rfl⟩:=h
  rcases ao.mp hb with z | z
  ·subst z;exact⟨_,s,trivial⟩
  ·exact Trees.held ds r b z
theorem Trees.held:∀(ds:List D) {xs:List V} {A:List Addr},Trees K H ds xs A->∀a∈A,∃o,H a=some o∧Mut (some o)
 |[],_,_,h,a,ha=>by rw[h.2]at ha;cases ha
 |d::ds,_,_,h,b,hb=>by
  unfold Trees at h
  obtain⟨x,r,C,C',e,h1,h2,rfl⟩:=h
  rcases au.mp hb with z | z
  ·exact Tree.held d h1 b z
  ·exact Trees.held ds h2 b z
end
theorem Same.sf(e:Same H H'){a:Addr}{xs:List V}(h:SqF K H a xs):SqF K H' a xs:=h.elim (fun⟨o,z⟩=>.inl ⟨o,e _ _ z⟩) .inr
theorem Keep.same(e:Same H H'):Keep K B H H':=⟨fun _ _ _ h=>e _ _ h,fun _ _ h=>e.tup h,fun _ _ h=>e.sf h,fun _ _ _ h=>e _ _ h,fun _ _ _ h=>e _ _ h,fun _ _ _ _ _ h=>e _ _ h⟩
theorem KeepI.same(e:Same H H'):KeepI K H H':=⟨fun _ _ h=>e.tup h,fun _ _ h=>e.sf h⟩
theorem Rep.mono{d:D}{v:V}(h:Rep K H B d v)(e:Same H H'):Rep K H' B d v:=Rep.keep (.same e) d h
theorem Reps.mono{ds:List D}{xs:List V}(h:Reps K H B ds xs)(e:Same H H'):Reps K H' B ds xs:=Reps.keep (.same e) ds h
theorem Tree.mono{d:D}{v:V}{A:List Addr}(h:Tree K H d v A)(e:Same H H'):Tree K H' d v A:=Tree.keep (.same e) d h fun a _ o z=>e a o z
theorem Trees.mono{ds:List D}{v:List V}{A:List Addr}(h:Trees K H ds v A)(e:Same H H'):Trees K H' ds v A:=Trees.keep (.same e) ds h fun a _ o z=>e a o z
mutual
theorem Rep.wide{C:Addr->Prop}(hc:∀a,C a->H a=none):∀(d:D) {v:V},Rep K H B d v->Rep K H (fun a=>B a∨C a) d v
 |.non,_,h=>h
 |.bl _,_,h=>h
 |.int _,_,h=>h
 |.str _,_,h=>h
 |.lst ds,_,h=>by
  unfold Rep at h ⊢
  obtain⟨a,xs,e,n,s,r⟩:=h
  refine⟨a,xs,e,fun z=>z.elim n fun z=>?_,s,Reps.wide hc ds r⟩
  rw[hc a z]at s;cases s
 |.tup ds,_,h=>by
  unfold Rep at h ⊢
  obtain⟨a,xs,e,s,r⟩:=h
  exact⟨a,xs,e,s,Reps.wide hc ds r⟩
 |.scr _,_,h=>h
 |.dct ks ds,_,h=>by
  unfold Rep at h ⊢
  obtain⟨a,kvs,e,n,s,q,r⟩:=h
  refine⟨a,kvs,e,fun z=>z.elim n fun z=>?_,s,q,Reps.wide hc ds r⟩
  rw[hc a z]at s;cases s
 |.exc _,_,h=>by
  unfold Rep at h ⊢
  obtain⟨a,C,e,n,s,r⟩:=h
  refine⟨a,C,e,fun z=>z.elim n fun z=>?_,s,r⟩
  rw[hc a z]at s;cases s
 |.obj x a ks ds,_,h=>by
  unfold Rep at h ⊢
  obtain⟨C',dx,fs,n,s,q,r1⟩:=h
  refine⟨C',dx,fs,fun z=>z.elim n fun z=>?_,s,q,Reps.wide hc ds r1⟩
  rw[hc a z]at s;cases s
 |.cel a ds,_,h=>by
  unfold Rep at h ⊢
  obtain⟨xs,n,s,e,r⟩:=h
  refine⟨xs,fun z=>z.elim n fun z=>?_,s,e,Reps.wide hc ds r⟩
  rw[hc a z]at s;cases s
theorem Reps.wide{C:Addr->Prop}(hc:∀a,C a->H a=none):∀(ds:List D) {xs:List V},Reps K H B ds xs->Reps K H (fun a=>B a∨C a) ds xs
 |[],_,h=>h
 |d::ds,_,h=>by
  unfold Reps at h ⊢
  obtain⟨x,r,e,h1,h2⟩:=h
  exact⟨x,r,e,Rep.wide hc d h1,Reps.wide hc ds h2⟩
end
theorem Keep.upd{a:Addr}{o:HO}(hb:B a)(mu:Mut (H a)):Keep K B H (upd H a o):=by
 refine⟨fun b xs n h=>?_,fun b xs h=>?_,fun b xs h=>?_,fun b kvs n h=>?_,fun b φ n h=>?_,fun b C dx fs n h=>?_⟩
 ·have ne:b≠a:=fun z=>n (z ▸ hb)
  rw[z0v ne];exact h
 ·rcases h with (h | ⟨u,h⟩) | h
  ·have ne:b≠a:=fun z=>by subst z;rw[h]at mu;exact mu
   exact .inl (.inl (by rw[z0v ne];exact h))
  ·have ne:b≠a:=fun z=>by subst z;rw[h]at mu;exact mu
   exact .inl (.inr ⟨u,by rw[z0v ne];exact h⟩)
  ·exact .inr h
 ·rcases h with⟨u,h⟩ | h
  ·have ne:b≠a:=fun z=>by subst z;rw[h]at mu;exact mu
   exact .inl ⟨u,by rw[z0v ne];exact h⟩
  ·exact .inr h
 ·have ne:b≠a:=fun z=>n (z ▸ hb)
  rw[z0v ne];exact h
 ·have ne:b≠a:=fun z=>n (z ▸ hb)
  rw[z0v ne];exact h
 ·have ne:b≠a:=fun z=>n (z ▸ hb)
  rw[z0v ne];exact h
theorem z0n{a:Addr}{o:HO}(h:H a=none):Same H (upd H a o):=fun b u e=>by rw[z0v (z1s e h)];exact e
theorem Reps.length:∀{ds:List D} {xs:List V},Reps K H B ds xs->ds.length=xs.length
 |[],_,h=>by unfold Reps at h;subst h;rfl
 |d::ds,_,h=>by
  unfold Reps at h
  obtain⟨x,r,rfl,_,h2⟩:=h
  simp[Reps.length h2]
theorem Reps.get:∀{ds:List D} {xs:List V} {i:Nat} {d:D},Reps K H B ds xs->ds[i]? = some d->∃x,xs[i]? = some x∧Rep K H B d x
 |[],_,_,_,_,e=>by simp at e
 |d::ds,_,i,d',h,e=>by
  unfold Reps at h
  obtain⟨x,r,rfl,h1,h2⟩:=h
  cases i with
  |zero=>simp at e;subst e;exact⟨x,rfl,h1⟩
  |succ i=>simpa using Reps.get (i:=i) h2 (by simpa using e)
theorem Reps.get':∀{ds:List D} {xs:List V} {i:Nat} {x:V},Reps K H B ds xs->xs[i]? = some x->∃d,ds[i]? = some d∧Rep K H B d x
 |[],_,_,_,h,e=>by unfold Reps at h;subst h;simp at e
 |d::ds,_,i,x',h,e=>by
  unfold Reps at h
  obtain⟨x,r,rfl,h1,h2⟩:=h
  cases i with
  |zero=>simp at e;subst e;exact⟨d,rfl,h1⟩
  |succ i=>simpa using Reps.get' (i:=i) h2 (by simpa using e)
theorem Reps.append:∀{ds es:List D} {xs ys:List V},Reps K H B ds xs->Reps K H B es ys->Reps K H B (ds++es) (xs++ys)
 |[],_,_,_,h,h'=>by unfold Reps at h;subst h;exact h'
 |d::ds,es,_,ys,h,h'=>by
  unfold Reps at h
  obtain⟨x,r,rfl,h1,h2⟩:=h
  exact(show Reps K H B (d::(ds++es)) (x::(r++ys)) by unfold Reps;exact⟨x,r++ys,rfl,h1,Reps.append h2 h'⟩)
theorem Reps.take:∀{ds:List D} {xs:List V} (n:Nat),Reps K H B ds xs->Reps K H B (ds.take n) (xs.take n)
 |_,_,0,_=>by rw[List.take_zero,List.take_zero];unfold Reps;rfl
 |[],_,_+1,h=>by unfold Reps at h;subst h;unfold Reps;rfl
 |d::ds,_,n+1,h=>by
  unfold Reps at h
  obtain⟨x,r,rfl,h1,h2⟩:=h
  rw[ft,ft]
  unfold Reps
  exact⟨x,_,rfl,h1,Reps.take n h2⟩
theorem Reps.drop:∀{ds:List D} {xs:List V} (n:Nat),Reps K H B ds xs->Reps K H B (ds.drop n) (xs.drop n)
 |_,_,0,h=>h
 |[],_,_+1,h=>by unfold Reps at h;subst h;unfold Reps;rfl
 |d::ds,_,n+1,h=>by
  unfold Reps at h
  obtain⟨x,r,rfl,h1,h2⟩:=h
  exact Reps.drop n h2
theorem Reps.one{d:D}{x:V}(h:Rep K H B d x):Reps K H B [d] [x]:=by unfold Reps;exact⟨x,[],rfl,h,by unfold Reps;rfl⟩
theorem Reps.nil:Reps K H B [] []:=by unfold Reps;rfl
theorem Reps.cons{d:D}{x:V}{ds:List D}{xs:List V}(h:Rep K H B d x)(h':Reps K H B ds xs):Reps K H B (d::ds) (x::xs):=by unfold Reps;exact⟨x,xs,rfl,h,h'⟩
theorem Reps.snoc{d:D}{x:V}{ds:List D}{xs:List V}(h':Reps K H B ds xs)(h:Rep K H B d x):Reps K H B (ds++[d]) (xs++[x]):=h'.append (.one h)
theorem Trees.nil:Trees K H [] [] []:=⟨rfl,rfl⟩
theorem Trees.snoc:∀{ds:List D} {xs:List V} {A C:List Addr} {d:D} {x:V},Trees K H ds xs A->Tree K H d x C->Trees K H (ds++[d]) (xs++[x]) (A++C)
 |[],_,_,C,d,x,h,h'=>by
  obtain⟨rfl,rfl⟩:=h
  exact(show Trees K H [d] [x] C by unfold Trees;exact⟨x,[],C,[],rfl,h',⟨rfl,rfl⟩,(aL _).symm⟩)
 |e::ds,_,_,C,d,x,h,h'=>by
  unfold Trees at h
  obtain⟨y,r,A1,A2,rfl,h1,h2,rfl⟩:=h
  exact(show Trees K H (e::(ds++[d])) (y::(r++[x])) (A1++A2++C) by unfold Trees;exact⟨y,_,A1,A2++C,rfl,h1,Trees.snoc h2 h',aT _ _ _⟩)
end
abbrev DS:=List (Option D)
abbrev DE:=DS->Option D
structure RepS(K:aa)(H:Hp)(B:Addr->Prop)(σ:St)(δ:DS):Prop where
 len:δ.length=σ.length
 get:∀(i:Nat) (d:D),δ[i]? = some (some d)->∃v,σ[i]? = some (some v)∧Rep K H B d v
def InB(B:Addr->Prop)(H:Hp):Prop:=∀a,B a->∃o,H a=some o
def noB:Addr->Prop:=fun _=>False
theorem InB.mono{B:Addr->Prop}{H H':Hp}(h:InB B H)(e:Same H H'):InB B H':=fun a b=>let⟨o,q⟩:=h a b;⟨o,e a o q⟩
theorem InB.no{H:Hp}:InB noB H:=fun _ b=>b.elim
theorem InB.fresh{B:Addr->Prop}{H:Hp}(h:InB B H){a:Addr}(e:H a=none):¬ B a:=fun b=>by
 obtain⟨o,q⟩:=h a b
 rw[e]at q;cases q
theorem RepS.mono{K:aa}{H H':Hp}{B:Addr->Prop}{σ:St}{δ:DS}(h:RepS K H B σ δ)(e:Same H H'):RepS K H' B σ δ:=
 ⟨h.len,fun i d q=>let⟨v,a,r⟩:=h.get i d q;⟨v,a,r.mono e⟩⟩
theorem RepS.anti{K:aa}{H:Hp}{B B':Addr->Prop}{σ:St}{δ:DS}(h:RepS K H B σ δ)(e:∀a,B' a->B a):RepS K H B' σ δ:=
 ⟨h.len,fun i d q=>let⟨v,a,r⟩:=h.get i d q;⟨v,a,r.anti e⟩⟩
def tD(K:aa)(f:DE):TE:=fun σ H Q=>∃B δ d,InB B H∧RepS K H B σ δ∧f δ=some d∧∀v H',Same H H'->Rep K H' B d v->Q v H'
def tF(K:aa)(f:DS->Option (List D)):TE:=fun σ H Q=>∃B δ ds,InB B H∧RepS K H B σ δ∧f δ=some ds ∧
 ∀a xs H',Same H H'->H a=none->H' a=some (.lst xs)->Reps K H' B ds xs->Q (.ref a) H'
def tN(K:aa)(f:DE):TE:=fun σ H Q=>∃δ d,RepS K H noB σ δ∧f δ=some d∧∀v H' A,Same H H'->Tree K H' d v A->A.Nodup->(∀a∈A,H a=none)->Q v H'
def tT(K:aa)(f:DS->Option Bool):TT:=fun σ H Q=>∃B δ b,InB B H∧RepS K H B σ δ∧f δ=some b∧∀H',Same H H'->Q b H'
def tDs(K:aa)(f:DS->Option (List D)):TA:=fun σ H Q=>∃B δ ds,InB B H∧RepS K H B σ δ∧f δ=some ds∧∀vs H',Same H H'->Reps K H' B ds vs->Q vs H'
abbrev PD(X:Cx)(e:Expr)(f:DE):Prop:=PE X e (tD X.K f)
abbrev PF(X:Cx)(e:Expr)(f:DS->Option (List D)):Prop:=PE X e (tF X.K f)
abbrev PN(X:Cx)(e:Expr)(f:DE):Prop:=PE X e (tN X.K f)
abbrev PTD(X:Cx)(e:Expr)(f:DS->Option Bool):Prop:=PT X e (tT X.K f)
abbrev PWD(X:Cx)(e:Expr)(f:DS->Option Bool):Prop:=PW X e (tT X.K f)
section
variable{X:Cx}{e a b c:Expr}{es:List Expr}{pos:Pos}
theorem PE.imp{t t':TE}(h:PE X e t)(w:∀σ H Q,t' σ H Q->t σ H Q):PE X e t':=fun pins s σ H Q I q=>h pins s σ H Q I (w σ H Q q)
theorem PT.imp{t t':TT}(h:PT X e t)(w:∀σ H Q,t' σ H Q->t σ H Q):PT X e t':=fun pins s σ H Q I q=>h pins s σ H Q I (w σ H Q q)
theorem PW.imp{t t':TT}(h:PW X e t)(w:∀σ H Q,t' σ H Q->t σ H Q):PW X e t':=fun wh pins s σ H Q I q=>h wh pins s σ H Q I (w σ H Q q)
theorem PA.imp{t t':TA}(h:PA X es t)(w:∀σ H Q,t' σ H Q->t σ H Q):PA X es t':=fun po pins s σ H Q I q=>h po pins s σ H Q I (w σ H Q q)
def mkL(f:DS->Option (List D)):DE:=fun δ=>(f δ).map .lst
def z0w(f:DS->Option (List D)):DE:=fun δ=>(f δ).bind fun ds=>if z1t ds=true then some (.lst ds)else none
theorem iDF{K:aa}{f:DS->Option (List D)}:∀σ H Q,tD K (mkL f) σ H Q->tF K f σ H Q:=fun σ H Q ⟨B,δ,d,hB,S,q,k⟩=>by
 unfold mkL at q
 cases r:f δ with
 |none=>rw[r]at q;cases q
 |some ds=>
  rw[r]at q
  cases q
  exact⟨B,δ,ds,hB,S,r,fun a xs H' s hn ha hr=>k _ H' s (by unfold Rep;exact⟨a,xs,rfl,hB.fresh hn,ha,hr⟩)⟩
theorem iDN{K:aa}{f:DE}:∀σ H Q,tD K f σ H Q->tN K f σ H Q:=fun σ H Q ⟨B,δ,d,hB,S,q,k⟩=>
 ⟨δ,d,S.anti (fun _ z=>z.elim),q,fun v H' A s t nd fr=>k v H' s (t.rep d fun a ha=>hB.fresh (fr a ha))⟩
theorem iNF{K:aa}{f:DS->Option (List D)}:∀σ H Q,tN K (z0w f) σ H Q->tF K f σ H Q:=fun σ H Q ⟨δ,d,S,q,k⟩=>by
 unfold z0w at q
 cases r:f δ with
 |none=>rw[r]at q;cases q
 |some ds=>
  rw[r]at q
  have q':(if z1t ds=true then some (D.lst ds)else none)=some d:=q
  split at q'
  ·rename_i hi
   cases q'
   refine⟨noB,δ,ds,.no,S,r,fun a xs H' s hn ha hr=>k (.ref a) H' [a] s ?_ (aw.mpr ⟨(fun z=>nomatch z),be⟩) (fun b hb=>by rw[aq.mp hb];exact hn)⟩
   unfold Tree
   exact⟨a,xs,[],rfl,ha,hr.immTree ds hi,rfl⟩
  ·cases q'
theorem z3R{f:DS->Option (List D)}(h:PF X e f):PD X e (mkL f):=h.imp iDF
theorem z1H{f:DE}(h:PN X e f):PD X e f:=h.imp iDN
theorem z5A{f:DS->Option (List D)}(h:PF X e f):PN X e (z0w f):=h.imp iNF
def z0c(i:Nat):DE:=fun δ=>(δ[i]?).bind id
def dC(d:D):DE:=fun _=>some d
theorem z0g(i:Nat){x:Str}{p:Pos}(h:PE X (.Name x p) (y2I i)):PD X (.Name x p) (z0c i):=h.imp fun σ H Q ⟨B,δ,d,hB,S,q,k⟩=>by
 unfold z0c at q
 cases r:δ[i]? with
 |none=>rw[r]at q;cases q
 |some o=>
  rw[r]at q
  have q':o=some d:=q
  subst q'
  obtain⟨v,e,rv⟩:=S.get i d r
  exact⟨v,e,k v H (.refl H) rv⟩
theorem pd_C{d:D}{v:V}(h:PE X e (tC v))(r:∀K H B,Rep K H B d v):PD X e (dC d):=h.imp fun σ H Q ⟨B,δ,d',hB,S,q,k⟩=>by
 cases q
 exact k v H (.refl H) (r _ _ _)
theorem z0f{i j p}:PD X (.Constant (.int i) j p) (dC (.int i)):=pd_C pe_int fun _ _ _=>rfl
theorem z4B{i j p}:PD X (.Constant (.bool i) j p) (dC (.bl i)):=pd_C pe_bl fun _ _ _=>rfl
theorem z3S{i j p}:PD X (.Constant (.str i) j p) (dC (.str i)):=pd_C pe_str fun _ _ _=>rfl
def d2(F:D->D->Option D)(f g:DE):DE:=fun δ=>(f δ).bind fun x=>(g δ).bind fun y=>F x y
theorem z5Z{F:D->D->Option D}{f g:DE}{δ:DS}{d:D}(h:d2 F f g δ=some d):∃x y,f δ=some x∧g δ=some y∧F x y=some d:=by
 unfold d2 at h
 cases hx:f δ with
 |none=>rw[hx]at h;cases h
 |some x=>
  rw[hx]at h
  cases hy:g δ with
  |none=>
   have h':((g δ).bind fun y=>F x y)=some d:=h
   rw[hy]at h';cases h'
  |some y=>
   have h':((g δ).bind fun y=>F x y)=some d:=h
   rw[hy]at h'
   exact⟨x,y,rfl,rfl,h'⟩
def Op2(K:aa)(r:R2)(F:D->D->Option D):Prop:=∀(H:Hp) (B:Addr->Prop) (dx dy d:D) (x y:V) (Q:VK),InB B H->Rep K H B dx x->Rep K H B dy y->F dx dy=some d->(∀v H',Same H H'->Rep K H' B d v->Q v H')->r x y H Q
theorem y5r{r:R2}{F:D->D->Option D}{f g:DE}(ho:Op2 X.K r F)(σ:St)(H:Hp)(Q:VK)(h:tD X.K (d2 F f g) σ H Q):tOp r (tD X.K f) (tD X.K g) σ H Q:=by
 obtain⟨B,δ,d,hB,S,q,k⟩:=h
 obtain⟨dx,dy,e1,e2,e3⟩:=z5Z q
 exact⟨B,δ,dx,hB,S,e1,fun v H1 s1 r1=>⟨B,δ,dy,hB.mono s1,S.mono s1,e2,fun u H2 s2 r2=>
  ho H2 B dx dy d v u Q ((hB.mono s1).mono s2) (r1.mono s2) r2 e3 fun z H' s' rz=>k z H' ((s1.trans s2).trans s') rz⟩⟩
theorem y1u{op:Operator}{r:R2}{F:D->D->Option D}{f g:DE}(ho:OpR X (fM op) r)(hD:Op2 X.K r F)(ha:PD X a f)(hb:PD X b g):PD X (.BinOp a op b pos) (d2 F f g):=(y6F ho ha hb).imp (y5r hD)
theorem y2F{op:CmpOp}{r:R2}{F:D->D->Option D}{f g:DE}(ho:OpR X (compareOp op) r)(hD:Op2 X.K r F)(ha:PD X a f)(hb:PD X b g)(hm:fH op b=false):PD X (.Compare a [op] [b] pos) (d2 F f g):=(pe_cmpR ho ha hb hm).imp (y5r hD)
def z0H(f:DE):DS->Option Bool:=fun δ=>match f δ with
 |some (.bl b)=>some b
 |_=>none
theorem y6e{f:DE}{δ:DS}{b:Bool}(h:z0H f δ=some b):f δ=some (.bl b):=by
 unfold z0H at h
 split at h
 ·rename_i b' e
  cases h;exact e
 ·cases h
theorem test_of{t:TE}{f:DE}(h:∀σ H Q,tD X.K f σ H Q->t σ H Q)(σ:St)(H:Hp)(Q:Bool->Hp->Prop)(q:tT X.K (z0H f) σ H Q):tTest t σ H Q:=by
 obtain⟨B,δ,b,hB,S,q,k⟩:=q
 refine h σ H _ ⟨B,δ,.bl b,hB,S,y6e q,fun v H' s r=>?_⟩
 exact⟨b,r,k H' s⟩
theorem z5V{op:CmpOp}{r:R2}{F:D->D->Option D}{f g:DE}(ho:OpR X (compareOp op) r)(hD:Op2 X.K r F)(ha:PD X a f)(hb:PD X b g)(hm:fH op b=false):PTD X (.Compare a [op] [b] pos) (z0H (d2 F f g)):=(pt_cmpR ho ha hb hm).imp (test_of (y5r hD))
def z8V(F G:D->D->Option D)(f g h:DE):DE:=fun δ=>(f δ).bind fun x=>(g δ).bind fun y=>match F x y with
 |some (.bl true)=>(h δ).bind fun z=>G y z
 |some (.bl false)=>some (.bl false)
 |_=>none
theorem x2e{r r':R2}{F G:D->D->Option D}{f g h:DE}(ho:Op2 X.K r F)(ho':Op2 X.K r' G)(σ:St)(H:Hp)(Q:VK)(q:tD X.K (z8V F G f g h) σ H Q):x5o r r' (tD X.K f) (tD X.K g) (tD X.K h) σ H Q:=by
 obtain⟨B,δ,d,hB,S,q,k⟩:=q
 unfold z8V at q
 cases e1:f δ with
 |none=>rw[e1]at q;cases q
 |some x=>
  rw[e1]at q
  cases e2:g δ with
  |none=>
   have q':((g δ).bind _)=some d:=q
   rw[e2]at q';cases q'
  |some y=>
   have q':((g δ).bind _)=some d:=q
   rw[e2]at q'
   have q2:(match F x y with | some (.bl true)=>(h δ).bind fun z=>G y z | some (.bl false)=>some (.bl false) | _=>none)=some d:=q'
   refine⟨B,δ,x,hB,S,e1,fun v H1 s1 r1=>⟨B,δ,y,hB.mono s1,S.mono s1,e2,fun u H2 s2 r2=>?_⟩⟩
   split at q2
   ·rename_i e3
    refine ho H2 B x y _ v u _ ((hB.mono s1).mono s2) (r1.mono s2) r2 e3 fun z H3 s3 r3=>⟨true,r3,?_⟩
    rw[if_pos rfl]
    cases e4:h δ with
    |none=>rw[e4]at q2;cases q2
    |some w=>
     rw[e4]at q2
     have q4:G y w=some d:=q2
     refine⟨B,δ,w,((hB.mono s1).mono s2).mono s3,((S.mono s1).mono s2).mono s3,e4,fun t H4 s4 r4=>?_⟩
     exact ho' H4 B y w d u t Q ((((hB.mono s1).mono s2).mono s3).mono s4) ((r2.mono s3).mono s4) r4 q4 fun z' H' s' rz=>k z' H' ((((s1.trans s2).trans s3).trans s4).trans s') rz
   ·rename_i e3
    cases q2
    refine ho H2 B x y _ v u _ ((hB.mono s1).mono s2) (r1.mono s2) r2 e3 fun z H3 s3 r3=>⟨false,r3,?_⟩
    rw[if_neg ar]
    exact k _ H3 ((s1.trans s2).trans s3) rfl
   ·cases q2
theorem x3S{op op':CmpOp}{r r':R2}{F G:D->D->Option D}{f g h:DE}(ho:OpR X (compareOp op) r)(ho':OpR X (compareOp op') r')(hF:Op2 X.K r F)(hG:Op2 X.K r' G)(ha:PD X a f)(hb:PD X b g)(hc:PD X c h)
  (hm:lastMarks [op,op'] [b,c]=false:=by with_unfolding_all rfl):PD X (.Compare a [op,op'] [b,c] pos) (z8V F G f g h):=(x3l ho ho' ha hb hc hm).imp (x2e hF hG)
def iop(F:Int->Int->Option D):D->D->Option D
 |.int i,.int j=>F i j
 |_,_=>none
theorem z9E{F:Int->Int->Option D}{x y d:D}(h:iop F x y=some d):∃i j,x = .int i∧y = .int j∧F i j=some d:=by
 unfold iop at h
 split at h
 ·exact⟨_,_,rfl,rfl,h⟩
 ·cases h
theorem z8P{K:aa}{C:Int->Int->Prop}[∀i j,Decidable (C i j)]{g:Int->Int->Int}:Op2 K (rI C fun i j=>.int (g i j)) (iop fun i j=>if C i j then some (.int (g i j))else none):=by
 intro H B dx dy d x y Q hB hx hy q k
 obtain⟨i,j,rfl,rfl,q2⟩:=z9E q
 by_cases hc:C i j
 ·rw[if_pos hc]at q2
  cases q2
  exact⟨i,j,hx,hy,hc,k _ H (.refl H) rfl⟩
 ·rw[if_neg hc]at q2
  cases q2
theorem x0E{K:aa}{g:Int->Int->Int}:Op2 K (rI0 fun i j=>.int (g i j)) (iop fun i j=>some (.int (g i j))):=by
 intro H B dx dy d x y Q hB hx hy q k
 obtain⟨i,j,rfl,rfl,q2⟩:=z9E q
 cases q2
 exact⟨i,j,hx,hy,k _ H (.refl H) rfl⟩
theorem z4w{K:aa}{g:Int->Int->Bool}:Op2 K (rI0 fun i j=>.bl (g i j)) (iop fun i j=>some (.bl (g i j))):=by
 intro H B dx dy d x y Q hB hx hy q k
 obtain⟨i,j,rfl,rfl,q2⟩:=z9E q
 cases q2
 exact⟨i,j,hx,hy,k _ H (.refl H) rfl⟩
def d1(F:D->Option D)(f:DE):DE:=fun δ=>(f δ).bind F
theorem y7b{F:D->Option D}{f:DE}{δ:DS}{d:D}(h:d1 F f δ=some d):∃x,f δ=some x∧F x=some d:=by
 unfold d1 at h
 cases hx:f δ with
 |none=>rw[hx]at h;cases h
 |some x=>rw[hx]at h;exact⟨x,rfl,h⟩
def x3f:D->Option D
 |.int i=>some (.int (-i))
 |_=>none
theorem z8Q{f:DE}(h:PD X a f):PD X (.UnaryOp .USub a pos) (d1 x3f f):=(pe_un un_neg h).imp fun σ H Q ⟨B,δ,d,hB,S,q,k⟩=>by
 obtain⟨x,e1,e2⟩:=y7b q
 refine⟨B,δ,x,hB,S,e1,fun v H' s r=>?_⟩
 unfold x3f at e2
 split at e2
 ·cases e2
  exact⟨_,r,k _ H' s rfl⟩
 ·cases e2
def z7p:D->Option Bool
 |.non=>some false
 |.bl b=>some b
 |.int i=>some (i != 0)
 |.str x=>if x.length≤sizeLine then some ((x.length:Int) != 0)else none
 |.lst ds=>some (!ds.isEmpty)
 |.tup ds=>some (!ds.isEmpty)
 |.scr ns=>some (!ns.isEmpty)
 |.dct ks _=>some (!ks.isEmpty)
 |.exc _=>none
 |.obj _ _ _ _=>none
 |.cel _ _=>none
def z0q(f:DE):DS->Option Bool:=fun δ=>(f δ).bind z7p
theorem y4Y{K:aa}{H:Hp}{B:Addr->Prop}{ds:List D}{xs:List V}(h:Reps K H B ds xs):(!ds.isEmpty) = !xs.isEmpty:=by
 have:=h.length
 cases ds <;> cases xs <;> simp_all
theorem y8b{K:aa}{H:Hp}{B:Addr->Prop}{d:D}{v:V}{k:Bool}(h:Rep K H B d v)(e:z7p d=some k):TruV K v H k:=by
 cases d with
 |non=>cases h;cases e;rfl
 |bl b=>cases h;cases e;rfl
 |int i=>cases h;cases e;rfl
 |str x=>
  cases h
  have e':(if x.length≤sizeLine then some ((x.length:Int) != 0)else none)=some k:=e
  by_cases hl:x.length≤sizeLine
  ·rw[if_pos hl]at e'
   cases e'
   exact⟨hl,rfl⟩
  ·rw[if_neg hl]at e'
   cases e'
 |lst ds=>
  unfold Rep at h
  obtain⟨a,xs,rfl,_,s,r⟩:=h
  cases e
  exact .inl ⟨xs,SqL.of s,y4Y r⟩
 |tup ds=>
  unfold Rep at h
  obtain⟨a,xs,rfl,s,r⟩:=h
  cases e
  exact .inr (.inl ⟨xs,s,y4Y r⟩)
 |scr ns=>
  unfold Rep at h
  obtain⟨a,rfl,s⟩:=h
  cases e
  exact .inl ⟨_,s.sq,by cases ns <;> rfl⟩
 |dct ks ds=>
  unfold Rep at h
  obtain⟨a,kvs,rfl,_,s,q,r⟩:=h
  cases e
  refine .inr (.inr ⟨kvs,s,?_⟩)
  rw[←q]
  cases kvs <;> rfl
 |exc _=>cases e
 |obj _ _ _ _=>cases e
 |cel _ _=>cases e
theorem z0p{f:DE}(h:PD X a f)(he:∀whole,isTrue a X.env whole=(do let v ←whole;standAt a.pos;holding [v] (truthy v)):=by intro _;rfl):PTD X a (z0q f):=(x3j h he).imp fun σ H Q ⟨B,δ,k,hB,S,q,kk⟩=>by
 unfold z0q at q
 cases e:f δ with
 |none=>rw[e]at q;cases q
 |some d=>
  rw[e]at q
  exact⟨B,δ,d,hB,S,e,fun v H' s r=>⟨k,y8b r q,kk H' s⟩⟩
def z3e(f g:DS->Option Bool):DS->Option Bool:=fun δ=>(f δ).bind fun c=>if c=true then g δ else some false
def x0g(f g:DS->Option Bool):DS->Option Bool:=fun δ=>(f δ).bind fun c=>if c=true then some true else g δ
def z2W(f:DS->Option Bool):DS->Option Bool:=fun δ=>(f δ).map (!·)
theorem z3C{f:DS->Option Bool}(h:PTD X a f):PWD X (.BoolOp .And [a] pos) f:=pw_and1 h
theorem z7T{f:DS->Option Bool}(h:PTD X a f):PWD X (.BoolOp .Or [a] pos) f:=pw_or1 h
theorem z3k{rest:List Expr}{f g:DS->Option Bool}(ha:PTD X a f)(hb:PWD X (.BoolOp .And (b::rest) pos) g):PWD X (.BoolOp .And (a::b::rest) pos) (z3e f g):=(pw_and ha hb).imp fun σ H Q ⟨B,δ,k,hB,S,q,kk⟩=>by
 unfold z3e at q
 cases e:f δ with
 |none=>rw[e]at q;cases q
 |some c=>
  rw[e]at q
  refine⟨B,δ,c,hB,S,e,fun H1 s1=>?_⟩
  have q':(if c=true then g δ else some false)=some k:=q
  cases c with
  |true=>
   rw[if_pos rfl]at q'
   refine iteT ?_
   exact⟨B,δ,k,hB.mono s1,S.mono s1,q',fun H2 s2=>kk H2 (s1.trans s2)⟩
  |false=>
   rw[if_neg ar]at q'
   refine iteF ?_
   cases q'
   exact kk H1 s1
theorem z9f{rest:List Expr}{f g:DS->Option Bool}(ha:PTD X a f)(hb:PWD X (.BoolOp .Or (b::rest) pos) g):PWD X (.BoolOp .Or (a::b::rest) pos) (x0g f g):=(pw_or ha hb).imp fun σ H Q ⟨B,δ,k,hB,S,q,kk⟩=>by
 unfold x0g at q
 cases e:f δ with
 |none=>rw[e]at q;cases q
 |some c=>
  rw[e]at q
  refine⟨B,δ,c,hB,S,e,fun H1 s1=>?_⟩
  have q':(if c=true then some true else g δ)=some k:=q
  cases c with
  |true=>
   rw[if_pos rfl]at q'
   refine iteT ?_
   cases q'
   exact kk H1 s1
  |false=>
   rw[if_neg ar]at q'
   refine iteF ?_
   exact⟨B,δ,k,hB.mono s1,S.mono s1,q',fun H2 s2=>kk H2 (s1.trans s2)⟩
theorem z2k{f:DS->Option Bool}(h:PTD X a f):PTD X (.UnaryOp .Not a pos) (z2W f):=(pt_not h).imp fun σ H Q ⟨B,δ,k,hB,S,q,kk⟩=>by
 unfold z2W at q
 cases e:f δ with
 |none=>rw[e]at q;cases q
 |some c=>
  rw[e]at q
  cases q
  exact⟨B,δ,c,hB,S,e,kk⟩
def y6Y(f g:DE):DE:=fun δ=>match f δ with
 |some (.bl true)=>g δ
 |some (.bl false)=>some (.bl false)
 |_=>none
def uNot:D->Option D
 |.bl b=>some (.bl (!b))
 |_=>none
theorem y2x{op}{f:DE}(h:PD X a f):PD X (.BoolOp op [a] pos) f:=pe_one h
theorem z7l{rest:List Expr}{f g:DE}(ha:PD X a f)(hb:PD X (.BoolOp .And (b::rest) pos) g):PD X (.BoolOp .And (a::b::rest) pos) (y6Y f g):=(pe_and ha hb).imp fun σ H Q ⟨B,δ,d,hB,S,q,k⟩=>by
 unfold y6Y at q
 split at q
 ·rename_i e
  refine⟨B,δ,.bl true,hB,S,e,fun v H1 s1 r=>⟨true,r,?_⟩⟩
  rw[if_pos rfl]
  exact⟨B,δ,d,hB.mono s1,S.mono s1,q,fun v2 H2 s2 r2=>k v2 H2 (s1.trans s2) r2⟩
 ·rename_i e
  cases q
  refine⟨B,δ,.bl false,hB,S,e,fun v H1 s1 r=>⟨false,r,?_⟩⟩
  rw[if_neg ar]
  exact k _ H1 s1 rfl
 ·cases q
theorem pd_not{f:DE}(h:PD X a f):PD X (.UnaryOp .Not a pos) (d1 uNot f):=(pe_not h).imp fun σ H Q ⟨B,δ,d,hB,S,q,k⟩=>by
 obtain⟨x,e1,e2⟩:=y7b q
 refine⟨B,δ,x,hB,S,e1,fun v H' s r=>?_⟩
 unfold uNot at e2
 split at e2
 ·cases e2
  exact⟨_,r,k _ H' s rfl⟩
 ·cases e2
def dIf(c:DS->Option Bool)(f g:DE):DE:=fun δ=>(c δ).bind fun k=>if k=true then f δ else g δ
theorem pd_if{t:DS->Option Bool}{f g:DE}(hc:PTD X c t)(ha:PD X a f)(hb:PD X b g):PD X (.IfExp c a b pos) (dIf t f g):=(x3T hc ha hb).imp fun σ H Q ⟨B,δ,d,hB,S,q,k⟩=>by
 unfold dIf at q
 cases e:t δ with
 |none=>rw[e]at q;cases q
 |some c=>
  rw[e]at q
  refine⟨B,δ,c,hB,S,e,fun H1 s1=>?_⟩
  have q':(if c=true then f δ else g δ)=some d:=q
  cases c with
  |true=>
   rw[if_pos rfl]at q'
   refine iteT ?_
   exact⟨B,δ,d,hB.mono s1,S.mono s1,q',fun v2 H2 s2 r2=>k v2 H2 (s1.trans s2) r2⟩
  |false=>
   rw[if_neg ar]at q'
   refine iteF ?_
   exact⟨B,δ,d,hB.mono s1,S.mono s1,q',fun v2 H2 s2 r2=>k v2 H2 (s1.trans s2) r2⟩
def z0m:List DE->DS->Option (List D)
 |[],_=>some []
 |f::r,δ=>(f δ).bind fun x=>(z0m r δ).bind fun xs=>some (x::xs)
theorem z6g{f:DE}{r:List DE}{δ:DS}{ds:List D}(h:z0m (f::r) δ=some ds):∃x xs,f δ=some x∧z0m r δ=some xs∧ds=x::xs:=by
 unfold z0m at h
 cases hx:f δ with
 |none=>rw[hx]at h;cases h
 |some x=>
  rw[hx]at h
  have h':((z0m r δ).bind fun xs=>some (x::xs))=some ds:=h
  cases hy:z0m r δ with
  |none=>rw[hy]at h';cases h'
  |some xs=>
   rw[hy]at h'
   cases h'
   exact⟨x,xs,rfl,rfl,rfl⟩
theorem z2T:∀{fl:List DE} {δ:DS} {ds:List D},z0m fl δ=some ds->ds.length=fl.length
 |[],_,_,h=>by cases h;rfl
 |f::r,δ,ds,h=>by
  obtain⟨x,xs,_,e,rfl⟩:=z6g h
  simp[z2T e]
abbrev PAD(X:Cx)(es:List Expr)(fl:List DE):Prop:=PA X es (tDs X.K (z0m fl))
theorem z0b:PAD X [] []:=pa_nil.imp fun σ H Q ⟨B,δ,ds,hB,S,q,k⟩=>by
 cases q
 exact k [] H (.refl H) .nil
theorem z0a{f:DE}{fl:List DE}(ha:PD X e f)(hr:PAD X es fl)(hs:starEach (e::es) X.env=(false,eval e X.env)::starEach es X.env:=by rfl):PAD X (e::es) (f::fl):=(z0M ha hr hs).imp fun σ H Q ⟨B,δ,ds,hB,S,q,k⟩=>by
 obtain⟨x,xs,e1,e2,rfl⟩:=z6g q
 exact⟨B,δ,x,hB,S,e1,fun v H1 s1 r1=>⟨B,δ,xs,hB.mono s1,S.mono s1,e2,fun vs H2 s2 r2=>k (v::vs) H2 (s1.trans s2) (.cons (r1.mono s2) r2)⟩⟩
theorem z0W{fl:List DE}(h:PAD X es fl)(hl:fl.length≤1000:=by decide):PF X (.List es pos) (z0m fl):=(y5l h).imp fun σ H Q ⟨B,δ,ds,hB,S,q,k⟩=>by
 refine⟨B,δ,ds,hB,S,q,fun vs H1 s1 r1=>⟨?_,fun p hp=>?_⟩⟩
 ·rw[←r1.length,z2T q]
  exact cM (z8c hl)
 ·exact k p vs _ (s1.trans (z0n hp)) (s1.free hp) z0o (r1.mono (z0n hp))
def mkT(f:DS->Option (List D)):DE:=fun δ=>(f δ).map .tup
theorem z3o{x1}{fl:List DE}(h:PAD X es fl)(hl:fl.length≤1000:=by decide):PD X (.Tuple es x1 pos) (mkT (z0m fl)):=(x5q h).imp fun σ H Q ⟨B,δ,d,hB,S,q,k⟩=>by
 unfold mkT at q
 cases r:z0m fl δ with
 |none=>rw[r]at q;cases q
 |some ds=>
  rw[r]at q
  cases q
  refine⟨B,δ,ds,hB,S,r,fun vs H1 s1 r1=>⟨?_,fun p hp=>?_⟩⟩
  ·rw[←r1.length,z2T r]
   exact cM (z8c hl)
  ·refine k _ _ (s1.trans (z0n hp)) ?_
   unfold Rep
   exact⟨p,vs,rfl,SqT.of z0o,r1.mono (z0n hp)⟩
def ixD:D->D->Option D
 |.lst ds,.int i=>atI ds i
 |.tup ds,.int i=>atI ds i
 |.scr ns,.int i=>(atI ns i).map .int
 |_,_=>none
theorem atI_map{α β:Type}(f:α->β)(xs:List α)(i:Int):atI (xs.map f) i=(atI xs i).map f:=by
 unfold atI
 rw[ah]
 cases ixN xs.length i with
 |none=>rfl
 |some j=>simp
theorem y4W{K:aa}{H:Hp}{B:Addr->Prop}{ds:List D}{xs:List V}{i:Int}{d:D}(h:Reps K H B ds xs)(e:atI ds i=some d):∃x,atI xs i=some x∧Rep K H B d x:=by
 unfold atI at e ⊢
 rw[←h.length]
 cases q:ixN ds.length i with
 |none=>rw[q]at e;cases e
 |some j=>
  rw[q]at e
  exact h.get e
theorem o2_ix{K:aa}:Op2 K (rIx K) ixD:=by
 intro H B dx dy d x y Q hB hx hy q k
 unfold ixD at q
 split at q
 ·unfold Rep at hx
  obtain⟨a,xs,rfl,_,s,r⟩:=hx
  obtain⟨v,e,rv⟩:=y4W r q
  exact .inl ⟨a,xs,_,v,rfl,hy,SqL.of s,e,k v H (.refl H) rv⟩
 ·unfold Rep at hx
  obtain⟨a,xs,rfl,s,r⟩:=hx
  obtain⟨v,e,rv⟩:=y4W r q
  exact .inr (.inl ⟨a,xs,_,v,rfl,hy,s,e,k v H (.refl H) rv⟩)
 ·rename_i ns i
  unfold Rep at hx
  obtain⟨a,rfl,s⟩:=hx
  cases e:atI ns i with
  |none=>rw[e]at q;cases q
  |some n=>
   rw[e]at q
   cases q
   exact .inl ⟨a,_,_,.int n,rfl,hy,s.sq,by rw[atI_map,e];rfl,k _ H (.refl H) rfl⟩
 ·cases q
theorem z0C{f g:DE}(ha:PD X a f)(hb:PD X b g)(hs:z8e b:=by intro _ _;rfl):PD X (.Subscript a b pos) (d2 ixD f g):=(x2I x4W ha hb hs).imp (y5r o2_ix)
def spR(K:aa)(F:List D->Option D):Sp:=fun vs H Q _=>∃B ds d,InB B H∧Reps K H B ds vs∧F ds=some d∧∀v H',Same H H'->Rep K H' B d v->Q v H'
def spN(K:aa)(F:List D->Option D):Sp:=fun vs H Q _=>∃ds d,Reps K H noB ds vs∧F ds=some d∧∀v H' A,Same H H'->Tree K H' d v A->A.Nodup->(∀a∈A,H a=none)->Q v H'
structure DefOk(P:dw)(w:fE)(K:aa)(mg:Str->Option Value)(base:Heap)(k:Nat)(x:Str)(sp:Sp):Prop where
 ok:∃(f:Addr) (fd:fF) (ps:List Str),mg x=some (.ref f)∧bH K (.ref f)=true∧Binds K fd ps []∧FnOk P w K mg base CX0 k f fd ps sp
def z0k(F:List D->Option D)(fl:List DE):DE:=fun δ=>(z0m fl δ).bind F
theorem z6q{F:List D->Option D}{fl:List DE}{δ:DS}{d:D}(h:z0k F fl δ=some d):∃ds,z0m fl δ=some ds∧F ds=some d:=by
 unfold z0k at h
 cases q:z0m fl δ with
 |none=>rw[q]at h;cases h
 |some ds=>rw[q]at h;exact⟨ds,rfl,h⟩
end
section
variable{X:Cx}{e a b c:Expr}{es:List Expr}{pos p:Pos}{x:Str}{k:Nat}{tg iter elt:Expr}
theorem z9y{sp:Sp}{t:TA}(G:DefOk X.prog X.w X.K X.mg X.base k x sp)(hr:Room k X.A)(hg:Gl X x)(ha:PA X (e::es) t)(hdb:(x==("__debug__" : Str))=false:=by decide)
  (he:starEach (e::es) X.env=(false,eval e X.env)::starEach es X.env:=by rfl) (hpl:(fI pos (starEach es X.env)).any (·.1)=false:=by rfl):PE X (.Call (.Name x p) (e::es) [] pos) (tCall sp [] E0 t):=by
 obtain⟨f,fd,ps,hm,hk,hb,ok⟩:=G.ok
 exact pe_call ok hr hg hm hk hb .nil pass0 ha hdb he hpl
theorem y4o{F:List D->Option D}{fl:List DE}(G:DefOk X.prog X.w X.K X.mg X.base k x (spR X.K F))(hr:Room k X.A)(hg:Gl X x)(ha:PAD X (e::es) fl)(hdb:(x==("__debug__" : Str))=false:=by decide)
  (he:starEach (e::es) X.env=(false,eval e X.env)::starEach es X.env:=by rfl) (hpl:(fI pos (starEach es X.env)).any (·.1)=false:=by rfl):PD X (.Call (.Name x p) (e::es) [] pos) (z0k F fl):=
 (z9y G hr hg ha hdb he hpl).imp fun σ H Q ⟨B,δ,d,hB,S,q,k⟩=>by
  obtain⟨ds,e1,e2⟩:=z6q q
  refine⟨B,δ,ds,hB,S,e1,fun vs H1 s1 r1=>?_⟩
  show spR X.K F (vs++[]) H1 Q E0
  rw[aL]
  exact⟨B,ds,d,hB.mono s1,r1,e2,fun v H' s' r=>k v H' (s1.trans s') r⟩
theorem z0i{F:List D->Option D}{fl:List DE}(G:DefOk X.prog X.w X.K X.mg X.base k x (spN X.K F))(hr:Room k X.A)(hg:Gl X x)(ha:PAD X (e::es) fl)(hdb:(x==("__debug__" : Str))=false:=by decide)
  (he:starEach (e::es) X.env=(false,eval e X.env)::starEach es X.env:=by rfl) (hpl:(fI pos (starEach es X.env)).any (·.1)=false:=by rfl):PN X (.Call (.Name x p) (e::es) [] pos) (z0k F fl):=
 (z9y G hr hg ha hdb he hpl).imp fun σ H Q ⟨δ,d,S,q,k⟩=>by
  obtain⟨ds,e1,e2⟩:=z6q q
  refine⟨noB,δ,ds,.no,S,e1,fun vs H1 s1 r1=>?_⟩
  show spN X.K F (vs++[]) H1 Q E0
  rw[aL]
  exact⟨ds,d,r1,e2,fun v H' A s' t nd fr=>k v H' A (s1.trans s') t nd fun a ha=>s1.free (fr a ha)⟩
structure ItD(K:aa)(J:It)(H:Hp)(B:Addr->Prop)(ds:List D):Prop where
 go:∀i H',Keep K B H H'->i<ds.length->J.go i H'
 stop:∀i H',Keep K B H H'->ds.length≤i->J.stop i H'
 yld:∀i H' x H2,Keep K B H H'->J.yld i H' x H2->Same H' H2∧∃d,(i<ds.length->ds[i]? = some d)∧Rep K H2 B d x
def ItW(K:aa)(J:It)(H:Hp)(B:Addr->Prop)(ds:List D):Prop:=∀C:Addr->Prop,(∀a,C a->H a=none)->ItD K J H (fun a=>B a∨C a) ds
def tI(K:aa)(f:DS->Option (List D)):TI:=fun σ H R=>∃B δ ds,InB B H∧RepS K H B σ δ∧f δ=some ds∧∀J H',Same H H'->ItW K J H' B ds->R J H'
abbrev PID(X:Cx)(tg iter:Expr)(f:DS->Option (List D)):Prop:=PI X tg iter (tI X.K f)
theorem PI.imp{wi wi':TI}(h:PI X tg iter wi)(w:∀σ H R,wi' σ H R->wi σ H R):PI X tg iter wi':=fun pins s σ H R I q=>h pins s σ H R I (w σ H R q)
def iSeq(K:aa)(tl:TE):TI:=fun σ H R=>tl σ H fun x H1=>∃a,x = .ref a∧(((∃xs,SqL K H1 a xs)∧R (Itl K a) H1)∨((∃xs,SqT K H1 a xs)∧R (Itt K a) H1))
theorem pi_seq{l:Expr}{tl:TE}(hl:PE X l tl):PI X tg l (iSeq X.K tl):=by
 intro pins s σ H R I h
 refine thn (hl pins s σ H _ I h) fun v s1 ⟨x,H1,I1,r1,q1⟩=>?_
 obtain⟨a,e,q1⟩:=q1
 subst e
 cases r1
 have fp:∀b∈[s1.heap.objs.size],y2A X pins H1 b:=fun b hb=>by
  have e:b=s1.heap.objs.size:=by simpa using hb
  subst e
  exact I1.fpOk (am _) (I1.hok.fresh (am _))
 rcases q1 with⟨⟨xs,hq⟩,q⟩ | ⟨⟨xs,hq⟩,q⟩
 ·obtain⟨its,rv,p,hz⟩:=I1.list hq
  refine wpAny_pyIter_list p.isList ?_
  exact⟨s1.heap.objs.size,[s1.heap.objs.size],_,_,H1,rfl,I1.kept (t':=s1.toks) fun b o e=>Heap.get?_push_of_some _ e,x0K a _,⟨_,Heap.get?_push_size _ rfl,rfl,rfl⟩,fp,q⟩
 ·obtain⟨its,rv,p,hz⟩:=I1.tuple hq
  refine wpAny_pyIter_tuple (show s1.heap.IsTuple a its.toArray from p) ?_
  exact⟨s1.heap.objs.size,[s1.heap.objs.size],_,_,H1,rfl,I1.kept (t':=s1.toks) fun b o e=>Heap.get?_push_of_some _ e,y6b a _,⟨_,Heap.get?_push_size _ rfl,rfl,rfl⟩,fp,q⟩
def y6y:D->Option (List D)
 |.lst ds=>some ds
 |.tup ds=>some ds
 |.scr ns=>some (ns.map .int)
 |_=>none
def z5I(f:DE):DS->Option (List D):=fun δ=>(f δ).bind y6y
theorem x2C{K:aa}{H:Hp}{B:Addr->Prop}{a:Addr}{xs:List V}{ds:List D}(n:¬ B a)(h:H a=some (.lst xs))(r:Reps K H B ds xs):ItD K (Itl K a) H B ds:=by
 have hl:=r.length
 refine⟨fun i H' kp hi=>?_,fun i H' kp hi=>?_,fun i H' x H2 kp y=>?_⟩
 ·exact⟨xs,xs[i],SqL.of (kp.sl a xs n h),by rw[ac]⟩
 ·exact⟨xs,SqL.of (kp.sl a xs n h),by omega⟩
 ·obtain⟨e,y⟩:=y
  subst e
  have hx:=y xs (SqL.of (kp.sl a xs n h))
  obtain⟨d,e,rd⟩:=(Reps.keep kp ds r).get' hx
  exact⟨.refl _,d,fun _=>e,rd⟩
theorem itd_tup{K:aa}{H:Hp}{B:Addr->Prop}{a:Addr}{xs:List V}{ds:List D}(h:SqT K H a xs)(r:Reps K H B ds xs):ItD K (Itt K a) H B ds:=by
 have hl:=r.length
 refine⟨fun i H' kp hi=>?_,fun i H' kp hi=>?_,fun i H' x H2 kp y=>?_⟩
 ·exact⟨xs,xs[i],kp.st a xs h,by rw[ac]⟩
 ·exact⟨xs,kp.st a xs h,by omega⟩
 ·obtain⟨e,y⟩:=y
  subst e
  have hx:=y xs (kp.st a xs h)
  obtain⟨d,e,rd⟩:=(Reps.keep kp ds r).get' hx
  exact⟨.refl _,d,fun _=>e,rd⟩
theorem z2F{K:aa}{H:Hp}{B:Addr->Prop}:∀ns:List Int,Reps K H B (ns.map D.int) (ns.map V.int)
 |[]=>.nil
 |n::ns=>.cons rfl (z2F ns)
theorem itd_scr{K:aa}{H:Hp}{B:Addr->Prop}{a:Addr}{ns:List Int}(h:SqF K H a (ns.map V.int)):ItD K (Itl K a) H B (ns.map D.int):=by
 have r:∀H',Reps K H' B (ns.map D.int) (ns.map V.int):=fun _=>z2F ns
 refine⟨fun i H' kp hi=>?_,fun i H' kp hi=>?_,fun i H' x H2 kp y=>?_⟩
 ·exact⟨ns.map V.int,(ns.map V.int)[i]'(by simpa using hi),(kp.sf a _ h).sq,by rw[ac]⟩
 ·exact⟨ns.map V.int,(kp.sf a _ h).sq,by simpa using hi⟩
 ·obtain⟨e,y⟩:=y
  subst e
  have hx:=y _ (kp.sf a _ h).sq
  obtain⟨d,e,rd⟩:=(r _).get' hx
  exact⟨.refl _,d,fun _=>e,rd⟩
theorem z0D{l:Expr}{f:DE}(h:PD X l f):PID X tg l (z5I f):=(pi_seq h).imp fun σ H R ⟨B,δ,ds,hB,S,q,k⟩=>by
 unfold z5I at q
 cases e:f δ with
 |none=>rw[e]at q;cases q
 |some d=>
  rw[e]at q
  have q':y6y d=some ds:=q
  refine⟨B,δ,d,hB,S,e,fun v H1 s1 r1=>?_⟩
  unfold y6y at q'
  split at q'
  ·cases q'
   unfold Rep at r1
   obtain⟨a,xs,rfl,n,h,r⟩:=r1
   exact⟨a,rfl,.inl ⟨⟨xs,SqL.of h⟩,k _ H1 s1 fun C hC=>x2C (fun z=>z.elim n fun z=>by rw[hC a z]at h;cases h) h (Reps.wide hC _ r)⟩⟩
  ·cases q'
   unfold Rep at r1
   obtain⟨a,xs,rfl,h,r⟩:=r1
   exact⟨a,rfl,.inr ⟨⟨xs,h⟩,k _ H1 s1 fun C hC=>itd_tup h (Reps.wide hC _ r)⟩⟩
  ·cases q'
   unfold Rep at r1
   obtain⟨a,rfl,h⟩:=r1
   exact⟨a,rfl,.inl ⟨⟨_,h.sq⟩,k _ H1 s1 fun C hC=>itd_scr h⟩⟩
  ·cases q'
def z2h(lo:Int)(n:Nat):List D:=(ad n).map fun i=>.int (lo+(i:Nat))
theorem x3o{lo:Int}{n i:Nat}(h:i<n):(z2h lo n)[i]? = some (.int (lo+i)):=by
 unfold z2h
 rw[ay,cI h]
 rfl
theorem z4Q(lo:Int)(n:Nat):(z2h lo n).length=n:=by unfold z2h;rw[ah,aW]
theorem y8j{K:aa}{H:Hp}{B:Addr->Prop}{lo:Int}{n:Nat}:ItD K (Itr lo n) H B (z2h lo n):=by
 refine⟨fun i H' _ hi=>?_,fun i H' _ hi=>?_,fun i H' x H2 _ y=>?_⟩
 ·rw[z4Q]at hi;exact hi
 ·rw[z4Q]at hi;exact hi
 ·obtain⟨e,y⟩:=y
  subst e y
  exact⟨.refl _,.int (lo+i),fun h=>x3o (by rwa [z4Q]at h),rfl⟩
def z1g(f:DE):DS->Option (List D):=fun δ=>match f δ with
 |some (.int j)=>if -(2 ^ 62)≤j∧j<2 ^ 62 then some (z2h 0 j.toNat)else none
 |_=>none
def x2b(f g:DE):DS->Option (List D):=fun δ=>match f δ,g δ with
 |some (.int i),some (.int j)=>if -(2 ^ 62)≤i∧i<2 ^ 62∧-(2 ^ 62)≤j∧j<2 ^ 62 then some (z2h i (j - i).toNat)else none
 |_,_=>none
theorem z1c{f:DE}(hg:Gl X "range")(hm:X.mg "range" = none)(ha:PD X a f)(hs:starEach [a] X.env=[(false,eval a X.env)]:=by rfl):PID X tg (.Call (.Name "range" p) [a] [] pos) (z1g f):=
 (y8x hg hm (z0a ha z0b hs) hs).imp fun σ H R ⟨B,δ,ds,hB,S,q,k⟩=>by
  unfold z1g at q
  split at q
  ·rename_i j e
   split at q
   ·rename_i hj
    cases q
    have ea:z0m [f] δ=some [.int j]:=by unfold z0m;rw[e];rfl
    refine⟨B,δ,[.int j],hB,S,ea,fun vs H1 s1 r1=>?_⟩
    unfold Reps at r1
    obtain⟨x,r,rfl,rx,rr⟩:=r1
    unfold Reps at rr
    subst rr
    exact⟨j,by rw[show x=V.int j from rx],hj.1,hj.2,k _ H1 s1 fun C _=>y8j⟩
   ·cases q
  ·cases q
theorem pi_rng2{f g:DE}(hg:Gl X "range")(hm:X.mg "range" = none)(ha:PD X a f)(hb:PD X b g)(hs:starEach [a,b] X.env=[(false,eval a X.env),(false,eval b X.env)]:=by rfl)(hs2:starEach [b] X.env=[(false,eval b X.env)]:=by rfl):
  PID X tg (.Call (.Name "range" p) [a,b] [] pos) (x2b f g):=
 (y9C hg hm (z0a ha (z0a hb z0b hs2) (by rw[hs,hs2])) hs hs2).imp fun σ H R ⟨B,δ,ds,hB,S,q,k⟩=>by
  unfold x2b at q
  split at q
  ·rename_i i j e e'
   split at q
   ·rename_i hj
    cases q
    have ea:z0m [f,g] δ=some [.int i,.int j]:=by unfold z0m z0m;rw[e,e'];rfl
    refine⟨B,δ,[.int i,.int j],hB,S,ea,fun vs H1 s1 r1=>?_⟩
    unfold Reps at r1
    obtain⟨x,r,rfl,rx,rr⟩:=r1
    unfold Reps at rr
    obtain⟨y,r',rfl,ry,rr⟩:=rr
    unfold Reps at rr
    subst rr
    exact⟨i,j,by rw[show x=V.int i from rx,show y=V.int j from ry],hj,k _ H1 s1 fun C _=>y8j⟩
   ·cases q
  ·cases q
def x2D:Option D->List D->List D
 |some y,ys=>y::ys
 |none,ys=>ys
def z1d(h:D->Option (Option D)):List D->Option (List D)
 |[]=>some []
 |x::r=>(h x).bind fun o=>(z1d h r).bind fun ys=>some (x2D o ys)
theorem z5K{h:D->Option (Option D)}{x:D}{r ds:List D}(e:z1d h (x::r)=some ds):∃o ys,h x=some o∧z1d h r=some ys∧ds=x2D o ys:=by
 unfold z1d at e
 cases q:h x with
 |none=>rw[q]at e;cases e
 |some o=>
  rw[q]at e
  have e':((z1d h r).bind fun ys=>some (x2D o ys))=some ds:=e
  cases q':z1d h r with
  |none=>rw[q']at e';cases e'
  |some ys=>
   rw[q']at e'
   exact⟨o,ys,rfl,rfl,(Option.some.inj e').symm⟩
def z0K(fi:DS->Option (List D))(fc:DS->Option Bool)(fe:DE):DS->Option (List D):=fun δ=>(fi δ).bind fun xs=>if xs.length≤sizeLine then
 z1d (fun x=>(fc (δ++[some x])).bind fun k=>if k=true then(fe (δ++[some x])).map some else some none) xs else none
def z3p:DS->Option Bool:=fun _=>some true
theorem z0A{X:Cx}:y9V X [] (tT X.K z3p):=fun pins s σ H Q I ⟨B,δ,b,hB,S,q,k⟩=>x2f pins s σ H Q I (by cases q;exact k H (.refl H))
theorem z0P{X:Cx}{c:Expr}{f:DS->Option Bool}(h:PTD X c f):y9V X [c] (tT X.K f):=x2B h
theorem RepS.snoc{K:aa}{H:Hp}{B:Addr->Prop}{σ:St}{δ:DS}{d:D}{v:V}(S:RepS K H B σ δ)(r:Rep K H B d v):RepS K H B (σ++[some v]) (δ++[some d]):=by
 refine⟨by simp[S.len],fun i d' e=>?_⟩
 by_cases hi:i<δ.length
 ·rw[ba hi]at e
  obtain⟨w,e',r'⟩:=S.get i d' e
  exact⟨w,by rw[ba (by rw[←S.len];exact hi)];exact e',r'⟩
 ·by_cases hj:i=δ.length
  ·subst hj
   rw[bg (am _),eV]at e
   cases e
   refine⟨v,?_,r⟩
   rw[S.len,bg (am _),eV]
   rfl
  ·rw[c7 (by simp;omega)]at e
   cases e
theorem RepS.wide{K:aa}{H:Hp}{B C:Addr->Prop}{σ:St}{δ:DS}(h:RepS K H B σ δ)(hc:∀a,C a->H a=none):RepS K H (fun a=>B a∨C a) σ δ:=
 ⟨h.len,fun i d q=>let⟨v,a,r⟩:=h.get i d q;⟨v,a,Rep.wide hc d r⟩⟩
theorem y0w{w v:Option V}:∀{σ:St},(σ++[w]).set σ.length v=σ++[v]
 |[]=>rfl
 |x::r=>congrArg (x :: ·) (y0w (σ:=r))
variable{N':List Str}{sc:fO}{ifs:List Expr}{n:Nat}{px:Pos}{fi:DS->Option (List D)}{fc:DS->Option Bool}{fe:DE}
theorem y4u{σ:St}{H:Hp}{Q:VK}(hσ:σ.length=n)(hq:tF X.K (z0K fi fc fe) σ H Q):y7T (tI X.K fi) (z2Z n) (tT X.K fc) (tD X.K fe) 1 σ H Q:=by
 obtain⟨B,δ,ds,hB,Sδ,q,k⟩:=hq
 unfold z0K at q
 cases e1:fi δ with
 |none=>rw[e1]at q;cases q
 |some xs=>
 rw[e1]at q
 have q1:(if xs.length≤sizeLine then z1d (fun x=>(fc (δ++[some x])).bind fun k=>if k=true then(fe (δ++[some x])).map some else some none) xs else none)=some ds:=q
 split at q1
 case isFalse=>cases q1
 case isTrue hsz=>
 refine⟨B,δ,xs,hB,Sδ,e1,fun J H1 s1 itw=>fun Da hD=>?_⟩
 have hD0:H Da=none:=s1.free hD
 have it:=itw (fun a=>a=Da) fun a ha=>by rw[ha];exact hD
 have Sw:RepS X.K H1 (fun a=>B a∨a=Da) σ δ:=(Sδ.mono s1).wide fun a ha=>by rw[ha];exact hD
 refine⟨fun i m σ' H'=>m=xs.length - i∧i≤xs.length∧(∃w,σ'=σ++[w])∧Same H1 H'∧∃ys dn rs,H' Da=some (.lst ys)∧Reps X.K H' (fun a=>B a∨a=Da) dn ys∧ds=dn++rs∧dn.length≤i ∧
  z1d (fun x=>(fc (δ++[some x])).bind fun k=>if k=true then(fe (δ++[some x])).map some else some none) (xs.drop i)=some rs,
  ⟨xs.length,by simp,bu _,⟨none,rfl⟩,z0n hD,[],[],ds,z0o,.nil,rfl,am _,q1⟩,?_⟩
 rintro i m σ' H' ⟨rfl,hi',⟨w,rfl⟩,sm,ys,dn,rs,hys,rys,hds,hln,hrs⟩
 have kp:Keep X.K (fun a=>B a∨a=Da) H1 H':=.same sm
 by_cases hlt:i<xs.length
 ·refine .inr ⟨it.go i H' kp hlt,fun σ'' H''=>(i+1≤xs.length∧(∃w,σ''=σ++[w])∧Same H1 H''∧∃ys dn rs,H'' Da=some (.lst ys)∧Reps X.K H'' (fun a=>B a∨a=Da) dn ys∧ds=dn++rs∧dn.length≤i+1 ∧
   z1d (fun x=>(fc (δ++[some x])).bind fun k=>if k=true then(fe (δ++[some x])).map some else some none) (xs.drop (i+1))=some rs),fun σ'' H'' h=>⟨xs.length - (i+1),by omega,rfl,h⟩,fun xv H2 hy=>?_⟩
  obtain⟨s2,d,hd,rd⟩:=it.yld i H' xv H2 kp hy
  have hdi:=hd hlt
  have hx:xs.drop i=d::xs.drop (i+1):=by
   obtain⟨hl,e⟩:=aO.mp hdi
   rw[bj hl,e]
  rw[hx]at hrs
  obtain⟨o,rs',e2,e3,e4⟩:=z5K hrs
  show tT X.K fc ((σ++[w]).set n (some xv)) H2 _
  rw[←hσ,y0w]
  have hB1:InB (fun a=>B a∨a=Da) H2:=fun a ha=>ha.elim (fun z=>(((hB.mono s1).mono sm).mono s2) a z) fun z=>⟨_,s2 _ _ (z ▸ hys)⟩
  have S2:RepS X.K H2 (fun a=>B a∨a=Da) (σ++[some xv]) (δ++[some d]):=((Sw.mono sm).mono s2).snoc rd
  have hl2:ys.length<sizeLine:=by
   have:=rys.length
   omega
  cases ec:fc (δ++[some d])with
  |none=>rw[ec]at e2;cases e2
  |some kk=>
   rw[ec]at e2
   have e2':(if kk=true then(fe (δ++[some d])).map some else some none)=some o:=e2
   refine⟨_,δ++[some d],kk,hB1,S2,ec,fun H3 s3=>?_⟩
   cases kk with
   |false=>
    rw[if_neg ar]at e2'
    rw[if_neg ar]
    cases e2'
    exact⟨hlt,⟨_,rfl⟩,(sm.trans s2).trans s3,ys,dn,rs',s3 _ _ (s2 _ _ hys),(rys.mono s2).mono s3,by rw[hds,e4];rfl,dF hln,e3⟩
   |true=>
    rw[if_pos rfl]at e2'
    rw[if_pos rfl]
    cases ey:fe (δ++[some d])with
    |none=>rw[ey]at e2';cases e2'
    |some y=>
     rw[ey]at e2'
     cases e2'
     refine⟨_,δ++[some d],y,hB1.mono s3,S2.mono s3,ey,fun yv H5 s5 r5=>⟨ys,s5 _ _ (s3 _ _ (s2 _ _ hys)),hl2,?_⟩⟩
     have hu:H5 Da=some (.lst ys):=s5 _ _ (s3 _ _ (s2 _ _ hys))
     refine⟨hlt,⟨_,rfl⟩,fun b u hb=>?_,ys++[yv],dn++[y],rs',z0o,?_,by rw[hds,e4,aT];rfl,by rw[aD];simp;omega,e3⟩
     ·rw[z0v (z1s hb hD)]
      exact s5 _ _ (s3 _ _ (s2 _ _ (sm _ _ hb)))
     ·exact Reps.keep (.upd (.inr rfl) (by rw[hu];exact trivial)) _ (((rys.mono s2).mono s3 |>.mono s5).snoc r5)
 ·have e:i=xs.length:=by omega
  subst e
  refine .inl ⟨it.stop _ H' kp (am _),?_⟩
  rw[cD]at hrs
  cases hrs
  rw[aL]at hds
  subst hds
  exact k Da ys H' (s1.trans sm) hD0 hys (rys.anti fun a z=>.inl z)
theorem z1e(hc:X.calm=true)(S:CompScope X.N X.env.scope.names N' 1 sc)(hn:n=X.N.length)(hi:PID X (.Name x px) iter fi)
  (hg:∀s H fp pins E,PG (z0E X N' sc s H fp pins E) (.Name x px) (z2Z n)) (ht:∀s H fp pins E,y9V (z0E X N' sc s H fp pins E) ifs (tT X.K fc)) (he:∀s H fp pins E,PE (z0E X N' sc s H fp pins E) elt (tD X.K fe))
  (hs:∀x,foldedSetIterable iter X.env x=pure x:=by intro _;rfl):PF X (.ListComp elt [⟨.Name x px,iter,ifs,0⟩] sc pos) (z0K fi fc fe):=by
 intro pins s σ H Q I hq
 exact y3T hc S hi ⟨hg,ht,he⟩ hs pins s σ H Q I (y4u (by rw[hn,I.len]) hq)
theorem y4J{i:Nat}{y:Str}{py spos:Pos}(hN:X.N.Nodup)(hy:X.N[i]? = some y)(hyl:X.env.scope.names.lookup y=some .local)(hc:X.calm=true)(S:CompScope X.N X.env.scope.names N' 1 sc)(hn:n=X.N.length)(hi:PID X (.Name x px) iter fi)
  (hg:∀s H fp pins E,PG (z0E X N' sc s H fp pins E) (.Name x px) (z2Z n)) (ht:∀s H fp pins E,y9V (z0E X N' sc s H fp pins E) ifs (tT X.K fc)) (he:∀s H fp pins E,PE (z0E X N' sc s H fp pins E) elt (tD X.K fe))
  (hsw:swapsWith (.ListComp elt [⟨.Name x px,iter,ifs,0⟩] sc pos) (some (.Name y py)) spos.line X.env=pure true:=by rfl) (hs:∀x,foldedSetIterable iter X.env x=pure x:=by intro _;rfl):
  PS X (.Assign [.Name y py] (.ListComp elt [⟨.Name x px,iter,ifs,0⟩] sc pos) spos) (tAsg (tF X.K (z0K fi fc fe)) (z2Z i)):=by
 intro pins s σ H D I hq
 exact x0O hc S hN hy hyl hi ⟨hg,ht,he⟩ hsw hs pins s σ H D I (y4u (by rw[hn,I.len]) hq)
end
inductive SD where
 |sh (d:D) | ow (d:D) | bo (r:Nat) (d:D)
abbrev SS:=List (Option SD)
def SD.val:SD->D
 |.sh d=>d
 |.ow d=>d
 |.bo _ d=>d
def z0r(δ:SS):DS:=δ.map (Option.map SD.val)
def shO:Option SD->Option D
 |some (.sh d)=>some d
 |_=>none
def shV(δ:SS):DS:=δ.map shO
structure RS(K:aa)(H0:Hp)(B0:Addr->Prop)(H:Hp)(σ:St)(δ:SS)(R:Nat->List Addr):Prop where
 keep:Same H0 H
 inB:InB B0 H0
 len:δ.length=σ.length
 new:∀r a,a∈R r->H0 a=none
 held:∀r a,a∈R r->∃o,H a=some o∧Mut (some o)
 disj:∀r s a,a∈R r->a∈R s->r=s
 sh:∀(i:Nat) (d:D),δ[i]? = some (some (.sh d))->∃v,σ[i]? = some (some v)∧Rep K H (fun a=>B0 a∨∃r,a∈R r) d v
 bo:∀(i r:Nat) (d:D),δ[i]? = some (some (.bo r d))->∃v,σ[i]? = some (some v)∧Rep K H (fun a=>B0 a∨∃s,s≠r∧a∈R s) d v
 ow:∀(i:Nat) (d:D),δ[i]? = some (some (.ow d))->∃v,σ[i]? = some (some v)∧Tree K H d v (R i)∧(R i).Nodup
structure Stp(R:Nat->List Addr)(H:Hp)(R':Nat->List Addr)(H':Hp):Prop where
 keep:∀a o,H a=some o->(∀r,a∉R r)->H' a=some o
 from':∀r a,a∈R' r->(∃s,a∈R s)∨H a=none
 there:∀a,H' a=none->H a=none
theorem Stp.refl(R:Nat->List Addr)(H:Hp):Stp R H R H:=⟨fun _ _ h _=>h,fun r _ h=>.inl ⟨r,h⟩,fun _ h=>h⟩
theorem Stp.trans{R R1 R2:Nat->List Addr}{H H1 H2:Hp}(a:Stp R H R1 H1)(b:Stp R1 H1 R2 H2):Stp R H R2 H2:=by
 refine⟨fun x o h n=>b.keep x o (a.keep x o h n) fun r hr=>?_,fun r x h=>?_,fun x h=>a.there x (b.there x h)⟩
 ·rcases a.from' r x hr with⟨s,z⟩ | z
  ·exact n s z
  ·rw[h]at z;cases z
 ·rcases b.from' r x h with⟨s,z⟩ | z
  ·exact a.from' s x z
  ·exact .inr (a.there x z)
theorem Stp.same{R:Nat->List Addr}{H H':Hp}(e:Same H H'):Stp R H R H':=⟨fun a o h _=>e a o h,fun r _ h=>.inl ⟨r,h⟩,fun _ h=>e.free h⟩
section
variable{K:aa}{H0 H H':Hp}{B0:Addr->Prop}{σ:St}{δ:SS}{R:Nat->List Addr}
theorem x3A{i:Nat}{d:D}(h:(z0r δ)[i]? = some (some d)):∃x,δ[i]? = some (some x)∧x.val=d:=by
 unfold z0r at h
 rw[ay]at h
 cases e:δ[i]? with
 |none=>rw[e]at h;cases h
 |some o=>
  rw[e]at h
  cases o with
  |none=>cases h
  |some x=>cases h;exact⟨x,rfl,rfl⟩
theorem shV_get{i:Nat}{d:D}(h:(shV δ)[i]? = some (some d)):δ[i]? = some (some (.sh d)):=by
 unfold shV at h
 rw[ay]at h
 cases e:δ[i]? with
 |none=>rw[e]at h;cases h
 |some o=>
  rw[e]at h
  have h':shO o=some d:=Option.some.inj h
  unfold shO at h'
  split at h'
  ·cases h';rfl
  ·cases h'
theorem RS.all(h:RS K H0 B0 H σ δ R):RepS K H noB σ (z0r δ):=by
 refine⟨by unfold z0r;rw[ah];exact h.len,fun i d e=>?_⟩
 obtain⟨x,e',rfl⟩:=x3A e
 cases x with
 |sh d=>
  obtain⟨v,e1,r⟩:=h.sh i d e'
  exact⟨v,e1,r.anti fun _ z=>z.elim⟩
 |bo r d=>
  obtain⟨v,e1,r⟩:=h.bo i r d e'
  exact⟨v,e1,r.anti fun _ z=>z.elim⟩
 |ow d=>
  obtain⟨v,e1,t,_⟩:=h.ow i d e'
  exact⟨v,e1,t.rep d fun _ _ z=>z.elim⟩
theorem RS.shr(h:RS K H0 B0 H σ δ R):RepS K H (fun a=>B0 a∨∃r,a∈R r) σ (shV δ):=by
 refine⟨by unfold shV;rw[ah];exact h.len,fun i d e=>h.sh i d (shV_get e)⟩
theorem RS.inAll(h:RS K H0 B0 H σ δ R):InB (fun a=>B0 a∨∃r,a∈R r) H:=fun a ha=>by
 rcases ha with z | ⟨r,z⟩
 ·exact(h.inB.mono h.keep) a z
 ·obtain⟨o,e,_⟩:=h.held r a z
  exact⟨o,e⟩
theorem RS.mono(h:RS K H0 B0 H σ δ R)(e:Same H H'):RS K H0 B0 H' σ δ R:=by
 refine⟨h.keep.trans e,h.inB,h.len,h.new,fun r a z=>?_,h.disj,fun i d z=>?_,fun i r d z=>?_,fun i d z=>?_⟩
 ·obtain⟨o,e1,m⟩:=h.held r a z
  exact⟨o,e a o e1,m⟩
 ·obtain⟨v,e1,r⟩:=h.sh i d z
  exact⟨v,e1,r.mono e⟩
 ·obtain⟨v,e1,r⟩:=h.bo i r d z
  exact⟨v,e1,r.mono e⟩
 ·obtain⟨v,e1,t,nd⟩:=h.ow i d z
  exact⟨v,e1,t.mono e,nd⟩
theorem RS.setSh{i:Nat}{d:D}{v:V}(h:RS K H0 B0 H σ δ R)(r:Rep K H (fun a=>B0 a∨∃r,a∈R r) d v):RS K H0 B0 H (σ.set i (some v)) (δ.set i (some (.sh d))) R:=by
 have gs:∀{α:Type} {l:List (Option α)} {i j:Nat} {x:Option α} {y:α},(l.set i x)[j]? = some (some y)->(j=i∧x=some y)∨(j≠i∧l[j]? = some (some y)):=fun {α l i j x y} e=>by
  by_cases hj:j=i
  ·subst hj
   rw[bQ]at e
   simp only[if_true]at e
   split at e
   ·exact .inl ⟨rfl,Option.some.inj e⟩
   ·cases e
  ·rw[aV (Ne.symm hj)]at e
   exact .inr ⟨hj,e⟩
 have up:∀{j:Nat} {w:V},j≠i->σ[j]? = some (some w)->(σ.set i (some v))[j]? = some (some w):=fun hj e=>by rw[aV (Ne.symm hj)];exact e
 refine⟨h.keep,h.inB,by simp[h.len],h.new,h.held,h.disj,fun j d' z=>?_,fun j r' d' z=>?_,fun j d' z=>?_⟩
 ·rcases gs z with⟨rfl,q⟩ | ⟨hj,q⟩
  ·cases q
   have hl:j<σ.length:=by
    rw[←h.len]
    by_cases hl:j<δ.length
    ·exact hl
    ·rw[c7 (by simp;omega)]at z;cases z
   exact⟨v,by rw[bQ];simp[hl],r⟩
  ·obtain⟨w,e1,r⟩:=h.sh j d' q
   exact⟨w,up hj e1,r⟩
 ·rcases gs z with⟨rfl,q⟩ | ⟨hj,q⟩
  ·cases q
  ·obtain⟨w,e1,r⟩:=h.bo j r' d' q
   exact⟨w,up hj e1,r⟩
 ·rcases gs z with⟨rfl,q⟩ | ⟨hj,q⟩
  ·cases q
  ·obtain⟨w,e1,t⟩:=h.ow j d' q
   exact⟨w,up hj e1,t⟩
def y0W(R:Nat->List Addr)(i:Nat)(A:List Addr):Nat->List Addr:=fun r=>if r=i then A else R r
theorem z0V{i:Nat}{A:List Addr}:y0W R i A i=A:=if_pos rfl
theorem z1E{i r:Nat}{A:List Addr}(h:r≠i):y0W R i A r=R r:=if_neg h
theorem z2n{α:Type}{l:List (Option α)}{i j:Nat}{x:Option α}{y:α}(e:(l.set i x)[j]? = some (some y)):(j=i∧x=some y∧i<l.length)∨(j≠i∧l[j]? = some (some y)):=by
 by_cases hj:j=i
 ·subst hj
  rw[bQ]at e
  simp only[if_true]at e
  split at e
  ·rename_i hl
   exact .inl ⟨rfl,Option.some.inj e,hl⟩
  ·cases e
 ·rw[aV (Ne.symm hj)]at e
  exact .inr ⟨hj,e⟩
theorem RS.setOw{Hold:Hp}{i:Nat}{d:D}{v:V}{A:List Addr}(h:RS K H0 B0 Hold σ δ R)(e:Same Hold H)(t:Tree K H d v A)(nd:A.Nodup)(fr:∀a∈A,Hold a=none):RS K H0 B0 H (σ.set i (some v)) (δ.set i (some (.ow d))) (y0W R i A):=by
 have hm:=h.mono e
 have up:∀{j:Nat} {w:V},j≠i->σ[j]? = some (some w)->(σ.set i (some v))[j]? = some (some w):=fun hj e=>by rw[aV (Ne.symm hj)];exact e
 have hA:∀r a,a∈R r->a∉A:=fun r a z z'=>by
  obtain⟨o,q,_⟩:=h.held r a z
  rw[fr a z']at q;cases q
 have mem:∀r a,a∈y0W R i A r->(r=i∧a∈A)∨(r≠i∧a∈R r):=fun r a z=>by
  by_cases hr:r=i
  ·subst hr;rw[z0V]at z;exact .inl ⟨rfl,z⟩
  ·rw[z1E hr]at z;exact .inr ⟨hr,z⟩
 refine⟨hm.keep,h.inB,by simp[h.len],fun r a z=>?_,fun r a z=>?_,fun r s a z z'=>?_,fun j d' z=>?_,fun j r' d' z=>?_,fun j d' z=>?_⟩
 ·rcases mem r a z with⟨_,z⟩ | ⟨_,z⟩
  ·exact h.keep.free (fr a z)
  ·exact h.new r a z
 ·rcases mem r a z with⟨_,z⟩ | ⟨_,z⟩
  ·exact t.held d a z
  ·exact hm.held r a z
 ·rcases mem r a z with⟨h1,z⟩ | ⟨h1,z⟩ <;> rcases mem s a z' with⟨h2,z'⟩ | ⟨h2,z'⟩
  ·rw[h1,h2]
  ·exact absurd z (hA s a z')
  ·exact absurd z' (hA r a z)
  ·exact h.disj r s a z z'
 ·rcases z2n z with⟨rfl,q,_⟩ | ⟨hj,q⟩
  ·cases q
  ·obtain⟨w,e1,r⟩:=h.sh j d' q
   refine⟨w,up hj e1,Rep.anti ?_ d' ((Rep.wide (C:=fun a=>a∈A) fr d' r).mono e)⟩
   rintro a (z | ⟨r,z⟩)
   ·exact .inl (.inl z)
   ·rcases mem r a z with⟨_,z⟩ | ⟨_,z⟩
    ·exact .inr z
    ·exact .inl (.inr ⟨r,z⟩)
 ·rcases z2n z with⟨rfl,q,_⟩ | ⟨hj,q⟩
  ·cases q
  ·obtain⟨w,e1,r⟩:=h.bo j r' d' q
   refine⟨w,up hj e1,Rep.anti ?_ d' ((Rep.wide (C:=fun a=>a∈A) fr d' r).mono e)⟩
   rintro a (z | ⟨s,hs,z⟩)
   ·exact .inl (.inl z)
   ·rcases mem s a z with⟨_,z⟩ | ⟨_,z⟩
    ·exact .inr z
    ·exact .inl (.inr ⟨s,hs,z⟩)
 ·rcases z2n z with⟨rfl,q,hl⟩ | ⟨hj,q⟩
  ·cases q
   rw[z0V]
   exact⟨v,by rw[bQ];simp[←h.len,hl],t,nd⟩
  ·obtain⟨w,e1,t'⟩:=hm.ow j d' q
   rw[z1E hj]
   exact⟨w,up hj e1,t'⟩
def x3g(i:Nat)(δ:SS):SS:=match δ[i]? with
 |some (some (.ow d))=>δ.set i (some (.sh d))
 |_=>δ
theorem RS.frz(i:Nat)(h:RS K H0 B0 H σ δ R):∃R',RS K H0 B0 H σ (x3g i δ) R'∧∀r a,a∈R' r->a∈R r:=by
 unfold x3g
 split
 ·rename_i d e
  obtain⟨v,e1,t,nd⟩:=h.ow i d e
  refine⟨y0W R i [],?_,fun r a z=>?_⟩
  ·have mem:∀r a,a∈y0W R i [] r->r≠i∧a∈R r:=fun r a z=>by
    by_cases hr:r=i
    ·subst hr;rw[z0V]at z;cases z
    ·rw[z1E hr]at z;exact⟨hr,z⟩
   refine⟨h.keep,h.inB,by simp[h.len],fun r a z=>h.new r a (mem r a z).2,fun r a z=>h.held r a (mem r a z).2,fun r s a z z'=>h.disj r s a (mem r a z).2 (mem s a z').2,fun j d' z=>?_,fun j r' d' z=>?_,fun j d' z=>?_⟩
   ·rcases z2n z with⟨rfl,q,hl⟩ | ⟨hj,q⟩
    ·cases q
     refine⟨v,e1,t.rep d fun a ha=>?_⟩
     rintro (z | ⟨r,z⟩)
     ·obtain⟨o,q⟩:=h.inB a z
      rw[h.new j a ha]at q;cases q
     ·exact(mem r a z).1 (h.disj r j a (mem r a z).2 ha)
    ·obtain⟨w,e2,r⟩:=h.sh j d' q
     exact⟨w,e2,r.anti fun a z=>z.imp id fun⟨r,z⟩=>⟨r,(mem r a z).2⟩⟩
   ·rcases z2n z with⟨rfl,q,_⟩ | ⟨hj,q⟩
    ·cases q
    ·obtain⟨w,e2,r⟩:=h.bo j r' d' q
     exact⟨w,e2,r.anti fun a z=>z.imp id fun⟨s,hs,z⟩=>⟨s,hs,(mem s a z).2⟩⟩
   ·rcases z2n z with⟨rfl,q,_⟩ | ⟨hj,q⟩
    ·cases q
    ·rw[z1E hj]
     exact h.ow j d' q
  ·by_cases hr:r=i
   ·subst hr;rw[z0V]at z;cases z
   ·rw[z1E hr]at z;exact z
 ·exact⟨R,h,fun _ _ z=>z⟩
end
inductive Out where
 |nx (δ:SS) | bk (δ:SS) | ct (δ:SS) | rt (d:D) | rb (d:D) (δ:SS) | ex (c:Nat) (δ:SS)
abbrev XR:=Nat->St->Hp->Prop
abbrev noX:XR:=fun _ _ _=>False
def Ret(K:aa)(H0:Hp)(B0:Addr->Prop)(fr:Bool)(H:Hp)(d:D)(v:V):Prop:=
 Same H0 H∧(fr=true->∃A,Tree K H d v A∧A.Nodup∧∀a∈A,H0 a=none)∧(fr=false->Rep K H B0 d v)
def Aft(K:aa)(H0:Hp)(B0:Addr->Prop)(fr:Bool)(RX:XR)(R:Nat->List Addr)(H:Hp)(D:Ends):Out->Prop
 |.nx δ'=>∀σ' H' R',RS K H0 B0 H' σ' δ' R'->Stp R H R' H'->D.nx σ' H'
 |.bk δ'=>∀σ' H' R',RS K H0 B0 H' σ' δ' R'->Stp R H R' H'->D.bk σ' H'
 |.ct δ'=>∀σ' H' R',RS K H0 B0 H' σ' δ' R'->Stp R H R' H'->D.ct σ' H'
 |.rt d=>∀v H',Ret K H0 B0 fr H' d v->(∀a,H' a=none->H a=none)->D.rt v H'
 |.rb d δ'=>∀v σ' H' R' A2,RS K H0 B0 H' σ' δ' R'->Stp R H R' H'->Tree K H' d v A2->A2.Nodup->(∀a∈A2,H0 a=none∧∀r,a∉R' r)->D.rt v H'
 |.ex c δ'=>∀σ' H' R',RS K H0 B0 H' σ' δ' R'->Stp R H R' H'->RX c σ' H'
def tS(K:aa)(H0:Hp)(B0:Addr->Prop)(fr:Bool)(RX:XR)(g:SS->Option Out):TS:=fun D σ H=>∃δ R o,RS K H0 B0 H σ δ R∧g δ=some o∧Aft K H0 B0 fr RX R H D o
theorem Aft.back{K:aa}{H0:Hp}{B0:Addr->Prop}{fr:Bool}{RX:XR}{R R1:Nat->List Addr}{H H1:Hp}{D:Ends}{o:Out}(h:Aft K H0 B0 fr RX R H D o)(s:Stp R H R1 H1):Aft K H0 B0 fr RX R1 H1 D o:=by
 cases o with
 |nx δ'=>exact fun σ' H' R' r t=>h σ' H' R' r (s.trans t)
 |bk δ'=>exact fun σ' H' R' r t=>h σ' H' R' r (s.trans t)
 |ct δ'=>exact fun σ' H' R' r t=>h σ' H' R' r (s.trans t)
 |rt d=>exact fun v H' r t=>h v H' r fun a z=>s.there a (t a z)
 |rb d δ'=>exact fun v σ' H' R' A2 r t=>h v σ' H' R' A2 r (s.trans t)
 |ex c δ'=>exact fun σ' H' R' r t=>h σ' H' R' r (s.trans t)
theorem PS.imp{X:Cx}{st:Stmt}{t t':TS}(h:PS X st t)(w:∀D σ H,t' D σ H->t D σ H):PS X st t':=fun pins s σ H D I q=>h pins s σ H D I (w D σ H q)
theorem PSs.imp{X:Cx}{st:List Stmt}{t t':TS}(h:PSs X st t)(w:∀D σ H,t' D σ H->t D σ H):PSs X st t':=fun pins s σ H D I q=>h pins s σ H D I (w D σ H q)
section
variable{X:Cx}{H0:Hp}{B0:Addr->Prop}{fr:Bool}{RX:XR}{st:Stmt}{sts:List Stmt}{e:Expr}{pos:Pos}
def z0J(g h:SS->Option Out):SS->Option Out:=fun δ=>(g δ).bind fun o=>match o with
 |.nx δ'=>h δ'
 |o=>some o
def z1q:SS->Option Out:=fun δ=>some (.nx δ)
theorem z0U:PSs X [] (tS X.K H0 B0 fr RX z1q):=pss_nil.imp fun D σ H ⟨δ,R,o,rs,q,k⟩=>by
 cases q
 exact k σ H R rs (.refl R H)
theorem z0h{g h:SS->Option Out}(h1:PS X st (tS X.K H0 B0 fr RX g))(h2:PSs X sts (tS X.K H0 B0 fr RX h)):PSs X (st::sts) (tS X.K H0 B0 fr RX (z0J g h)):=(x2l h1 h2).imp fun D σ H ⟨δ,R,o,rs,q,k⟩=>by
 unfold z0J at q
 cases e:g δ with
 |none=>rw[e]at q;cases q
 |some o1=>
  rw[e]at q
  refine⟨δ,R,o1,rs,e,?_⟩
  cases o1 with
  |nx δ'=>
   have q':h δ'=some o:=q
   exact fun σ' H' R' rs' s'=>⟨δ',R',o,rs',q',k.back s'⟩
  |bk δ'=>cases q;exact k
  |ct δ'=>cases q;exact k
  |rt d=>cases q;exact k
  |rb d δ'=>cases q;exact k
  |ex c δ'=>cases q;exact k
theorem z0j{g:SS->Option Out}(h1:PS X st (tS X.K H0 B0 fr RX g)):PSs X [st] (tS X.K H0 B0 fr RX g):=pss_one h1
abbrev PAsg(X:Cx)(st:Stmt)(i:Nat)(te:TE):Prop:=PS X st (tAsg te (z2Z i))
theorem PAsg.imp{i:Nat}{t t':TE}(h:PAsg X st i t)(w:∀σ H Q,t' σ H Q->t σ H Q):PAsg X st i t':=PS.imp h fun D σ H q=>w σ H _ q
theorem z0F{i:Nat}{x:Str}{te:TE}{pos':Pos}(hN:X.N.Nodup)(hi:X.N[i]? = some x)(hx:Loc X.env.scope x)(he:PE X e te)(hs:swapsWith e (some (.Name x pos')) pos.line X.env=pure false:=by rfl)(hf:X.fn x=true∨X.env.scope.names.lookup x=some .local:=by first | exact .inl rfl | exact .inr rfl | assumption):
  PAsg X (.Assign [.Name x pos'] e pos) i te:=ps_set hN hi hx he hs hf
def y7a(i:Nat)(f:DE):SS->Option Out:=fun δ=>(f (shV δ)).map fun d=>.nx (δ.set i (some (.sh d)))
def z6b(i:Nat)(f:DE):SS->Option Out:=fun δ=>(f (z0r δ)).bind fun d=>if d.imm=true then some (.nx (δ.set i (some (.sh d))))else none
def z5H(i:Nat)(f:DE):SS->Option Out:=fun δ=>(f (z0r δ)).map fun d=>.nx (δ.set i (some (.ow d)))
theorem z6v{i:Nat}{f:DE}(h:PAsg X st i (tD X.K f)):PS X st (tS X.K H0 B0 fr RX (y7a i f)):=PS.imp h fun D σ H ⟨δ,R,o,rs,q,k⟩=>by
 unfold y7a at q
 cases e:f (shV δ)with
 |none=>rw[e]at q;cases q
 |some d=>
  rw[e]at q
  cases q
  exact⟨_,shV δ,d,rs.inAll,rs.shr,e,fun v H' s r=>k _ H' R ((rs.mono s).setSh r) (.same s)⟩
theorem z1n{i:Nat}{f:DE}(h:PAsg X st i (tD X.K f)):PS X st (tS X.K H0 B0 fr RX (z6b i f)):=PS.imp h fun D σ H ⟨δ,R,o,rs,q,k⟩=>by
 unfold z6b at q
 cases e:f (z0r δ)with
 |none=>rw[e]at q;cases q
 |some d=>
  rw[e]at q
  have q':(if d.imm=true then some (Out.nx (δ.set i (some (.sh d))))else none)=some o:=q
  split at q'
  ·rename_i hi
   cases q'
   exact⟨noB,z0r δ,d,.no,rs.all,e,fun v H' s r=>k _ H' R ((rs.mono s).setSh (r.imm d hi)) (.same s)⟩
  ·cases q'
theorem z1h{i:Nat}{f:DE}(h:PAsg X st i (tN X.K f)):PS X st (tS X.K H0 B0 fr RX (z5H i f)):=PS.imp h fun D σ H ⟨δ,R,o,rs,q,k⟩=>by
 unfold z5H at q
 cases e:f (z0r δ)with
 |none=>rw[e]at q;cases q
 |some d=>
  rw[e]at q
  cases q
  refine⟨z0r δ,d,rs.all,e,fun v H' A s t nd fr'=>k _ H' (y0W R i A) (rs.setOw s t nd fr') ⟨fun a o h _=>s a o h,fun r a z=>?_,fun a z=>s.free z⟩⟩
  by_cases hr:r=i
  ·subst hr;rw[z0V]at z;exact .inr (fr' a z)
  ·rw[z1E hr]at z;exact .inl ⟨r,z⟩
def z2y(f:DE):SS->Option Out:=fun δ=>(f (z0r δ)).bind fun d=>if d.imm=true then some (.rt d)else none
def z8p(f:DE):SS->Option Out:=fun δ=>(f (z0r δ)).map .rt
def retS(f:DE):SS->Option Out:=fun δ=>(f (shV δ)).map .rt
def y7q(i:Nat):SS->Option Out:=fun δ=>match δ[i]? with
 |some (some (.ow d))=>some (.rt d)
 |_=>none
theorem z0x{f:DE}(h:PD X e f):PS X (.Return (some e) pos) (tS X.K H0 B0 fr RX (z2y f)):=PS.imp (z8j h) fun D σ H ⟨δ,R,o,rs,q,k⟩=>by
 unfold z2y at q
 cases e:f (z0r δ)with
 |none=>rw[e]at q;cases q
 |some d=>
  rw[e]at q
  have q':(if d.imm=true then some (Out.rt d)else none)=some o:=q
  split at q'
  ·rename_i hi
   cases q'
   exact⟨noB,z0r δ,d,.no,rs.all,e,fun v H' s r=>k v H' ⟨rs.keep.trans s,fun _=>⟨[],r.immTree d hi,be,(fun a z=>nomatch z)⟩,fun _=>r.imm d hi⟩ fun a z=>s.free z⟩
  ·cases q'
theorem z1R{f:DE}(h:PN X e f):PS X (.Return (some e) pos) (tS X.K H0 B0 fr RX (z8p f)):=PS.imp (z8j h) fun D σ H ⟨δ,R,o,rs,q,k⟩=>by
 unfold z8p at q
 cases e:f (z0r δ)with
 |none=>rw[e]at q;cases q
 |some d=>
  rw[e]at q
  cases q
  exact⟨z0r δ,d,rs.all,e,fun v H' A s t nd fr'=>k v H' ⟨rs.keep.trans s,fun _=>⟨A,t,nd,fun a z=>rs.keep.free (fr' a z)⟩,fun _=>t.rep d fun a z=>rs.inB.fresh (rs.keep.free (fr' a z))⟩ fun a z=>s.free z⟩
theorem y9a{f:DE}(h:PD X e f):PS X (.Return (some e) pos) (tS X.K H0 B0 false RX (retS f)):=PS.imp (z8j h) fun D σ H ⟨δ,R,o,rs,q,k⟩=>by
 unfold retS at q
 cases e:f (shV δ)with
 |none=>rw[e]at q;cases q
 |some d=>
  rw[e]at q
  cases q
  exact⟨_,shV δ,d,rs.inAll,rs.shr,e,fun v H' s r=>k v H' ⟨rs.keep.trans s,(fun z=>nomatch z),fun _=>r.anti fun a z=>.inl z⟩ fun a z=>s.free z⟩
theorem z7z{i:Nat}(h:PE X e (y2I i)):PS X (.Return (some e) pos) (tS X.K H0 B0 fr RX (y7q i)):=PS.imp (z8j h) fun D σ H ⟨δ,R,o,rs,q,k⟩=>by
 unfold y7q at q
 split at q
 ·rename_i d e
  cases q
  obtain⟨v,e1,t,nd⟩:=rs.ow i d e
  exact⟨v,e1,k v H ⟨rs.keep,fun _=>⟨R i,t,nd,fun a z=>rs.new i a z⟩,fun _=>t.rep d fun a z=>rs.inB.fresh (rs.new i a z)⟩ fun a z=>z⟩
 ·cases q
def ifO(c:DS->Option Bool)(g h:SS->Option Out):SS->Option Out:=fun δ=>(c (z0r δ)).bind fun b=>if b=true then g δ else h δ
theorem z5Q{c:Expr}{a b:List Stmt}{f:DS->Option Bool}{g h:SS->Option Out}(hc:PTD X c f)(ha:PSs X a (tS X.K H0 B0 fr RX g))(hb:PSs X b (tS X.K H0 B0 fr RX h)):PS X (.If c a b pos) (tS X.K H0 B0 fr RX (ifO f g h)):=PS.imp (ps_if hc ha hb) fun D σ H ⟨δ,R,o,rs,q,k⟩=>by
 unfold ifO at q
 cases e:f (z0r δ)with
 |none=>rw[e]at q;cases q
 |some b=>
  rw[e]at q
  have q':(if b=true then g δ else h δ)=some o:=q
  refine⟨noB,z0r δ,b,.no,rs.all,e,fun H' s=>?_⟩
  cases b with
  |true=>
   rw[if_pos rfl]at q'
   refine iteT ?_
   exact⟨δ,R,o,rs.mono s,q',k.back (.same s)⟩
  |false=>
   rw[if_neg ar]at q'
   refine iteF ?_
   exact⟨δ,R,o,rs.mono s,q',k.back (.same s)⟩
def frzO(i:Nat)(g:SS->Option Out):SS->Option Out:=fun δ=>g (x3g i δ)
theorem s_frz(i:Nat){g:SS->Option Out}(h:PS X st (tS X.K H0 B0 fr RX g)):PS X st (tS X.K H0 B0 fr RX (frzO i g)):=PS.imp h fun D σ H ⟨δ,R,o,rs,q,k⟩=>by
 obtain⟨R',rs',hs⟩:=rs.frz i
 exact⟨x3g i δ,R',o,rs',q,k.back ⟨fun a o h _=>h,fun r a z=>.inl ⟨r,hs r a z⟩,fun a z=>z⟩⟩
def y0S(i:Nat)(b:SS->Option Out):List D->SS->Option Out
 |[],δ=>some (.nx δ)
 |x::r,δ=>(b (δ.set i (some (.sh x)))).bind fun o=>match o with
  |.nx δ'=>y0S i b r δ'
  |.ct δ'=>y0S i b r δ'
  |.bk δ'=>some (.nx δ')
  |.rt d=>some (.rt d)
  |.rb d δ'=>some (.rb d δ')
  |.ex c δ'=>some (.ex c δ')
def z9d(i:Nat)(f:DS->Option (List D))(b:SS->Option Out):SS->Option Out:=fun δ=>(f (shV δ)).bind fun ds=>y0S i b ds δ
theorem Stp.keepB{K:aa}{R R':Nat->List Addr}{H H':Hp}{B:Addr->Prop}(s:Stp R H R' H')(hR:∀r a,a∈R r->B a)(hm:∀r a,a∈R r->∃o,H a=some o∧Mut (some o)):Keep K B H H':=by
 have kp:∀a o,H a=some o->¬ Mut (some o)->H' a=some o:=fun a o e n=>s.keep a o e fun r z=>by
  obtain⟨o',e',m⟩:=hm r a z
  rw[e]at e';cases e'
  exact n m
 refine⟨fun a xs n h=>s.keep a _ h fun r z=>n (hR r a z),fun a xs h=>?_,fun a xs h=>?_,fun a kvs n h=>s.keep a _ h fun r z=>n (hR r a z),fun a φ n h=>s.keep a _ h fun r z=>n (hR r a z),fun a _ _ _ n h=>s.keep a _ h fun r z=>n (hR r a z)⟩
 ·rcases h with (h | ⟨o,h⟩) | h
  ·exact .inl (.inl (kp a _ h fun z=>z))
  ·exact .inl (.inr ⟨o,kp a _ h fun z=>z⟩)
  ·exact .inr h
 ·rcases h with⟨o,h⟩ | h
  ·exact .inl ⟨o,kp a _ h fun z=>z⟩
  ·exact .inr h
theorem z4C{i:Nat}{x:Str}{px:Pos}{iter:Expr}{body:List Stmt}{f:DS->Option (List D)}{g:SS->Option Out}(hp:PassesOwn (model X.prog X.w) X.A X.env X.xe)(hc:X.calm=true)(hi:PID X (.Name x px) iter f)(hg:PG X (.Name x px) (z2Z i))(hb:PSs X body (tS X.K H0 B0 fr RX g))
  (hs:∀x,foldedSetIterable iter X.env x=pure x:=by intro _;rfl):PS X (.For (.Name x px) iter body [] pos) (tS X.K H0 B0 fr RX (z9d i f g)):=PS.imp (x4m hp hc hi hg hb hs) fun D σ H ⟨δ,R,o,rs,q,k⟩=>by
 unfold z9d at q
 cases e:f (shV δ)with
 |none=>rw[e]at q;cases q
 |some ds=>
 rw[e]at q
 have q:y0S i g ds δ=some o:=q
 refine⟨_,shV δ,ds,rs.inAll,rs.shr,e,fun J H1 s1 itw=>?_⟩
 have rs1:=rs.mono s1
 have it:=itw (fun a=>H1 a=none) fun a z=>z
 refine⟨fun n m σ' H'=>m=ds.length - n∧n≤ds.length∧∃δ' R',RS X.K H0 B0 H' σ' δ' R'∧Stp R H1 R' H'∧y0S i g (ds.drop n) δ'=some o,⟨ds.length,by simp,bu _,δ,R,rs1,.refl R H1,q⟩,?_⟩
 rintro n m σ' H' ⟨rfl,hn,δ',R',rs',s',q'⟩
 have kp:Keep X.K (fun a=>(B0 a∨∃r,a∈R r)∨H1 a=none) H1 H':=s'.keepB (fun r a z=>.inl (.inr ⟨r,z⟩)) rs1.held
 by_cases hlt:n<ds.length
 ·have hx:ds.drop n=ds[n]::ds.drop (n+1):=bj hlt
  rw[hx]at q'
  unfold y0S at q'
  cases eb:g (δ'.set i (some (.sh ds[n])))with
  |none=>rw[eb]at q';cases q'
  |some ob=>
   rw[eb]at q'
   refine .inr ⟨it.go n H' kp hlt,fun σ2 H2=>n+1≤ds.length∧∃δ2 R2,RS X.K H0 B0 H2 σ2 δ2 R2∧Stp R H1 R2 H2∧y0S i g (ds.drop (n+1)) δ2=some o,fun σ2 H2 z=>⟨ds.length - (n+1),by omega,rfl,z⟩,fun xv H2 hy=>?_⟩
   obtain⟨s2,d,hd,rd⟩:=it.yld n H' xv H2 kp hy
   have hdi:d=ds[n]:=by
    have:=hd hlt
    rw[ac hlt]at this
    exact(Option.some.inj this).symm
   subst hdi
   have rd':Rep X.K H2 (fun a=>B0 a∨∃r,a∈R' r) ds[n] xv:=rd.anti fun a z=>by
    rcases z with z | ⟨r,z⟩
    ·exact .inl (.inl z)
    ·rcases s'.from' r a z with z | z
     ·exact .inl (.inr z)
     ·exact .inr z
   have rs2:=(rs'.mono s2).setSh (i:=i) rd'
   have st2:Stp R H1 R' H2:=s'.trans (.same s2)
   refine⟨_,R',ob,rs2,eb,?_⟩
   cases ob with
   |nx δ2=>
    have q2:y0S i g (ds.drop (n+1)) δ2=some o:=q'
    exact fun σ3 H3 R3 rs3 s3=>⟨hlt,δ2,R3,rs3,st2.trans s3,q2⟩
   |ct δ2=>
    have q2:y0S i g (ds.drop (n+1)) δ2=some o:=q'
    exact fun σ3 H3 R3 rs3 s3=>⟨hlt,δ2,R3,rs3,st2.trans s3,q2⟩
   |bk δ2=>
    cases q'
    exact fun σ3 H3 R3 rs3 s3=>k σ3 H3 R3 rs3 ((Stp.same s1).trans (st2.trans s3))
   |rt d=>
    cases q'
    exact k.back ((Stp.same s1).trans st2)
   |rb d δ2=>
    cases q'
    exact k.back ((Stp.same s1).trans st2)
   |ex c δ2=>
    cases q'
    exact k.back ((Stp.same s1).trans st2)
 ·have en:n=ds.length:=by omega
  subst en
  rw[cD]at q'
  cases q'
  exact .inl ⟨it.stop _ H' kp (am _),k σ' H' R' rs' ((Stp.same s1).trans s')⟩
end
def z1G(np nl:Nat)(g:SS->Option Out):List D->Option D:=fun ds=>if ds.length=np then(match g (ds.map (fun d=>some (.sh d))++ai nl none)with
 |some (.rt d)=>some d
 |some (.nx _)=>some .non
 |_=>none)else none
theorem z6Y{np nl:Nat}{g:SS->Option Out}{ds:List D}{d:D}(h:z1G np nl g ds=some d):ds.length=np:=by
 unfold z1G at h
 split at h
 ·assumption
 ·cases h
theorem z9B{K:aa}{H:Hp}{B:Addr->Prop}{ds:List D}{vs:List V}{N:List Str}{nl:Nat}(hB:InB B H)(r:Reps K H B ds vs)(hN:N.length=ds.length+nl):
  RS K H B H (z4A N vs) (ds.map (fun d=>some (.sh d))++ai nl none) (fun _=>[]):=by
 have hl:=r.length
 have get:∀{i:Nat} {x:SD},(ds.map (fun d=>some (SD.sh d))++ai nl none)[i]? = some (some x)->∃d,ds[i]? = some d∧x = .sh d:=fun {i x} e=>by
  by_cases hi:i<ds.length
  ·rw[ba (by simpa using hi),ay,ac hi]at e
   cases e
   exact⟨ds[i],ac hi,rfl⟩
  ·rw[bg (by simpa using hi),bA]at e
   split at e <;> cases e
 refine⟨.refl H,hB,?_,(fun _ _ z=>nomatch z),(fun _ _ z=>nomatch z),(fun _ _ _ z=>nomatch z),fun i d e=>?_,fun i r d e=>?_,fun i d e=>?_⟩
 ·unfold z4A
  simp
  omega
 ·obtain⟨d',e1,e2⟩:=get e
  cases e2
  obtain⟨v,e3,rv⟩:=r.get e1
  refine⟨v,?_,rv.anti fun a z=>z.elim id (fun⟨_,z⟩=>nomatch z)⟩
  unfold z4A
  have hi:i<vs.length:=(aO.mp e3).1
  rw[ba (by simpa using hi),ay,e3]
  rfl
 ·obtain⟨d',_,e2⟩:=get e
  cases e2
 ·obtain⟨d',_,e2⟩:=get e
  cases e2
section
variable{P:dw}{w:fE}{K:aa}{mg:Str->Option Value}{base:Heap}
theorem fnN{x qual:Str}{st:Stmt}{f:Addr}{fd:fF}{N ps:List Str}{k np nl:Nat}{g:SS->Option Out}(F:Fun K x qual st f fd)(S:FnScope N ps (z0e st))(hnp:ps.length=np)(hN:N.length=np+nl)
  (hbody:∀(cdv:Value) (A:Around) (outer:List Env) (s:Shared) (H:Hp) (E:XK),Room k (A.deeper (envOfC qual (z0e st) s.heap.objs.size f cdv)) →
   PSs (y2B CX0 P w K mg base N qual (z0e st) f cdv A outer s H E).nox (z1m st) (tS K H noB true noX g)):FnOk P w K mg base CX0 (k+1) f fd ps (spN K (z1G np nl g)):=by
 refine F.ok S (fun vs H Q E h=>?_) fun cdv A outer s H vs Q E hr h=>?_
 ·obtain⟨ds,d,r,e,_⟩:=h
  rw[←r.length,z6Y e,hnp]
 ·obtain⟨ds,d,r,e,kk⟩:=h
  refine⟨_,hbody cdv A outer s H E hr,?_⟩
  have hl:=z6Y e
  unfold z1G at e
  rw[if_pos hl]at e
  have rs:=z9B (nl:=nl) .no r (N:=N) (by omega)
  split at e
  ·rename_i d' eg
   cases e
   exact⟨_,_,_,rs,eg,fun v H' z _=>by
    obtain⟨A',t,nd,fr⟩:=z.2.1 rfl
    exact kk v H' A' z.1 t nd fr⟩
  ·rename_i δ' eg
   cases e
   exact⟨_,_,_,rs,eg,fun σ' H' R' rs' _=>kk .non H' [] rs'.keep ⟨rfl,rfl⟩ be (fun a z=>nomatch z)⟩
  ·cases e
theorem z2I{x qual:Str}{st:Stmt}{f:Addr}{fd:fF}{N ps:List Str}{k np nl:Nat}{g:SS->Option Out}(F:Fun K x qual st f fd)(hm:mg x=some (.ref f))(hb:Binds K fd ps [])(S:FnScope N ps (z0e st))(hnp:ps.length=np)(hN:N.length=np+nl)
  (hbody:∀(cdv:Value) (A:Around) (outer:List Env) (s:Shared) (H:Hp) (E:XK),Room k (A.deeper (envOfC qual (z0e st) s.heap.objs.size f cdv)) →
   PSs (y2B CX0 P w K mg base N qual (z0e st) f cdv A outer s H E).nox (z1m st) (tS K H noB true noX g)):DefOk P w K mg base (k+1) x (spN K (z1G np nl g)):=
 ⟨f,fd,ps,hm,F.kp,hb,fnN F S hnp hN hbody⟩
theorem defR{x qual:Str}{st:Stmt}{f:Addr}{fd:fF}{N ps:List Str}{k np nl:Nat}{g:SS->Option Out}(F:Fun K x qual st f fd)(hm:mg x=some (.ref f))(hb:Binds K fd ps [])(S:FnScope N ps (z0e st))(hnp:ps.length=np)(hN:N.length=np+nl)
  (hbody:∀(cdv:Value) (A:Around) (outer:List Env) (s:Shared) (H:Hp) (E:XK) (B:Addr->Prop),Room k (A.deeper (envOfC qual (z0e st) s.heap.objs.size f cdv)) →
   PSs (y2B CX0 P w K mg base N qual (z0e st) f cdv A outer s H E).nox (z1m st) (tS K H B false noX g)):DefOk P w K mg base (k+1) x (spR K (z1G np nl g)):=by
 refine⟨f,fd,ps,hm,F.kp,hb,F.ok S (fun vs H Q E h=>?_) fun cdv A outer s H vs Q E hr h=>?_⟩
 ·obtain⟨B,ds,d,_,r,e,_⟩:=h
  rw[←r.length,z6Y e,hnp]
 ·obtain⟨B,ds,d,hB,r,e,kk⟩:=h
  refine⟨_,hbody cdv A outer s H E B hr,?_⟩
  have hl:=z6Y e
  unfold z1G at e
  rw[if_pos hl]at e
  have rs:=z9B (nl:=nl) hB r (N:=N) (by omega)
  split at e
  ·rename_i d' eg
   cases e
   exact⟨_,_,_,rs,eg,fun v H' z _=>kk v H' z.1 (z.2.2 rfl)⟩
  ·rename_i δ' eg
   cases e
   exact⟨_,_,_,rs,eg,fun σ' H' R' rs' _=>kk .non H' rs'.keep rfl⟩
  ·cases e
end
end L2
namespace L2
open PySem PySem.Spec PyProof.Rows PySem.SeqAt
mutual
def toP:D->PyData
 |.non=>.none
 |.bl b=>.bool b
 |.int i=>.int i
 |.str x=>.str x
 |.lst ds=>.list (z8K ds)
 |.tup ds=>.tuple (z8K ds)
 |.scr ns=>.list (ns.map .int)
 |.dct _ _=>.dict []
 |.exc _=>.dict []
 |.obj _ _ _ _=>.dict []
 |.cel _ _=>.dict []
def z8K:List D->List PyData
 |[]=>[]
 |d::ds=>toP d::z8K ds
end
theorem z8R{h:Heap}:∀(ns:List Int) {us:List Value},Vals (ns.map V.int) us->∃as,ReadsAll h us (ns.map .int) as
 |[],_,.nil=>⟨_,.nil⟩
 |n::ns,_,.cons r t=>by
  obtain⟨tk,rfl⟩:=r
  obtain⟨as,ra⟩:=z8R (h:=h) ns t
  exact⟨_,.cons (.int n tk) ra⟩
section
variable{X:Cx}{pins:List (Addr×Obj)}{σ:St}{H:Hp}{s:Shared}{B:Addr->Prop}
mutual
theorem z0S(I:Inv X pins σ H s):∀(d:D) {v:V} {u:Value},(toP d).canLay0=true->Rep X.K H B d v->RelV v u->∃as,Reads s.heap u (toP d) as
 |.non,_,_,_,h,r=>by cases h;cases r;exact⟨_,.none⟩
 |.bl b,_,_,_,h,r=>by cases h;cases r;exact⟨_,.bool b⟩
 |.int i,_,_,_,h,r=>by cases h;obtain⟨t,rfl⟩:=r;exact⟨_,.int i t⟩
 |.str x,_,_,_,h,r=>by cases h;obtain⟨t,rfl⟩:=r;exact⟨_,.str x t⟩
 |.lst ds,_,_,hc,h,r=>by
  unfold Rep at h
  obtain⟨a,xs,rfl,_,hq,rs⟩:=h
  cases r
  obtain⟨its,rv,⟨o,n,e,c,_,dt⟩,_⟩:=I.list (SqL.of hq)
  have hc':PyData.canLayAll0 (z8K ds)=true:=by unfold toP PyData.canLay0 at hc;exact hc
  obtain⟨as,ra⟩:=z6r I ds hc' rs rv
  unfold toP
  exact⟨_,.list e c dt (by simpa using ra)⟩
 |.tup ds,_,_,hc,h,r=>by
  unfold Rep at h
  obtain⟨a,xs,rfl,hq,rs⟩:=h
  cases r
  obtain⟨its,rv,⟨o,e,c,n,dt⟩,_⟩:=I.tuple hq
  have hc':PyData.canLayAll0 (z8K ds)=true:=by unfold toP PyData.canLay0 at hc;exact hc
  obtain⟨as,ra⟩:=z6r I ds hc' rs rv
  unfold toP
  exact⟨_,.tuple e c dt (by simpa using ra)⟩
 |.scr ns,_,_,hc,h,r=>by
  unfold Rep at h
  obtain⟨a,rfl,hq⟩:=h
  cases r
  obtain⟨its,rv,⟨o,n,e,c,_,dt⟩,_⟩:=I.list hq.sq
  unfold toP
  obtain⟨as,ra⟩:=z8R (h:=s.heap) ns rv
  exact⟨_,.list e c dt (by simpa using ra)⟩
 |.dct _ _,_,_,hc,_,_=>by unfold toP PyData.canLay0 at hc;cases hc
 |.exc _,_,_,hc,_,_=>by unfold toP PyData.canLay0 at hc;cases hc
 |.obj _ _ _ _,_,_,hc,_,_=>by unfold toP PyData.canLay0 at hc;cases hc
 |.cel _ _,_,_,hc,_,_=>by unfold toP PyData.canLay0 at hc;cases hc
theorem z6r(I:Inv X pins σ H s):∀(ds:List D) {xs:List V} {us:List Value},PyData.canLayAll0 (z8K ds)=true->Reps X.K H B ds xs->Vals xs us->∃as,ReadsAll s.heap us (z8K ds) as
 |[],_,_,_,h,r=>by
  unfold Reps at h
  subst h
  cases r
  exact⟨_,.nil⟩
 |d::ds,_,_,hc,h,r=>by
  unfold Reps at h
  obtain⟨x,rr,rfl,h1,h2⟩:=h
  unfold z8K PyData.canLayAll0 at hc
  rw[aE]at hc
  cases r with
  |cons r1 r2=>
   obtain⟨as,ra⟩:=z0S I d hc.1 h1 r1
   obtain⟨bs,rb⟩:=z6r I ds hc.2 h2 r2
   unfold z8K
   exact⟨_,.cons ra rb⟩
end
end
def okP(d:D):Bool:=(toP d).canLay0&&decide ((toP d).depth≤60)
def eqD(x y:D):Option D:=if(okP x&&okP y)=true then some (.bl (PyData.eqv (toP x) (toP y)))else none
def neD(x y:D):Option D:=if(okP x&&okP y)=true then some (.bl (!PyData.eqv (toP x) (toP y)))else none
def x2s(x:D):D->Option Bool
 |.lst ds=>if(okP x&&okP (.lst ds))=true then some (ds.any fun y=>PyData.eqv (toP y) (toP x))else none
 |.tup ds=>if(okP x&&okP (.tup ds))=true then some (ds.any fun y=>PyData.eqv (toP y) (toP x))else none
 |_=>none
def inD(x y:D):Option D:=(x2s x y).map .bl
def x1T(x y:D):Option D:=(x2s x y).map fun b=>.bl (!b)
def rEqD(K:aa):R2:=fun x y H Q=>∃B dx dy,Rep K H B dx x∧Rep K H B dy y∧okP dx=true∧okP dy=true∧Q (.bl (PyData.eqv (toP dx) (toP dy))) H
def rNeD(K:aa):R2:=fun x y H Q=>∃B dx dy,Rep K H B dx x∧Rep K H B dy y∧okP dx=true∧okP dy=true∧Q (.bl (!PyData.eqv (toP dx) (toP dy))) H
theorem z0u{d:D}(h:okP d=true):(toP d).canLay0=true∧(toP d).depth≤60:=by
 unfold okP at h
 rw[aE,decide_eq_true_eq]at h
 exact h
section
variable{X:Cx}
theorem x3Y(hu:X.A.units+64<cLine):OpR X (compareOp .Eq) (rEqD X.K):=by
 intro pins s σ H x y v u Q I rx ry h
 obtain⟨B,dx,dy,r1,r2,o1,o2,q⟩:=h
 obtain⟨as,ra⟩:=z0S I dx (z0u o1).1 r1 rx
 obtain⟨bs,rb⟩:=z0S I dy (z0u o2).1 r2 ry
 exact compareEq_reads ra rb (z0u o1).1 (z0u o2).1 (by have:=(z0u o1).2;omega) ⟨.bl _,H,I,rfl,q⟩
theorem x4Z(hu:X.A.units+64<cLine):OpR X (compareOp .NotEq) (rNeD X.K):=by
 intro pins s σ H x y v u Q I rx ry h
 obtain⟨B,dx,dy,r1,r2,o1,o2,q⟩:=h
 obtain⟨as,ra⟩:=z0S I dx (z0u o1).1 r1 rx
 obtain⟨bs,rb⟩:=z0S I dy (z0u o2).1 r2 ry
 exact compareNe_reads ra rb (z0u o1).1 (z0u o2).1 (by have:=(z0u o1).2;omega) ⟨.bl _,H,I,rfl,q⟩
theorem o2_eq{K:aa}:Op2 K (rEqD K) eqD:=by
 intro H B dx dy d x y Q hB hx hy q k
 unfold eqD at q
 split at q
 ·rename_i h
  rw[aE]at h
  cases q
  exact⟨B,dx,dy,hx,hy,h.1,h.2,k _ H (.refl H) rfl⟩
 ·cases q
theorem o2_ne{K:aa}:Op2 K (rNeD K) neD:=by
 intro H B dx dy d x y Q hB hx hy q k
 unfold neD at q
 split at q
 ·rename_i h
  rw[aE]at h
  cases q
  exact⟨B,dx,dy,hx,hy,h.1,h.2,k _ H (.refl H) rfl⟩
 ·cases q
theorem z5j(p:PyData->Bool):∀ds:List D,(z8K ds).any p=ds.any fun y=>p (toP y)
 |[]=>rfl
 |d::ds=>by unfold z8K;rw[cU,cU,z5j p ds]
def rInD(K:aa)(neg:Bool):R2:=fun x y H Q=>∃B dx dy b,Rep K H B dx x∧Rep K H B dy y∧x2s dx dy=some b∧Q (.bl (if neg then !b else b)) H
theorem x4s(hu:X.A.units+64<cLine):OpR X (compareOp .In) (rInD X.K false):=by
 intro pins s σ H x y v u Q I rx ry h
 obtain⟨B,dx,dy,b,r1,r2,o,q⟩:=h
 unfold x2s at o
 split at o
 ·split at o
  ·rename_i ds h
   rw[aE]at h
   cases o
   obtain⟨as,ra⟩:=z0S I dx (z0u h.1).1 r1 rx
   obtain⟨bs,rb⟩:=z0S I _ (z0u h.2).1 r2 ry
   have hc:=(z0u h.2).1
   unfold toP at rb hc
   unfold PyData.canLay0 at hc
   refine in_list_reads rb ra hc (z0u h.1).1 (by have:=(z0u h.1).2;omega) ?_
   rw[z5j]
   exact⟨.bl _,H,I,rfl,q⟩
  ·cases o
 ·split at o
  ·rename_i ds h
   rw[aE]at h
   cases o
   obtain⟨as,ra⟩:=z0S I dx (z0u h.1).1 r1 rx
   obtain⟨bs,rb⟩:=z0S I _ (z0u h.2).1 r2 ry
   have hc:=(z0u h.2).1
   unfold toP at rb hc
   unfold PyData.canLay0 at hc
   refine in_tuple_reads rb ra hc (z0u h.1).1 (by have:=(z0u h.1).2;omega) ?_
   rw[z5j]
   exact⟨.bl _,H,I,rfl,q⟩
  ·cases o
 ·cases o
theorem op_ninD(hu:X.A.units+64<cLine):OpR X (compareOp .NotIn) (rInD X.K true):=by
 intro pins s σ H x y v u Q I rx ry h
 obtain⟨B,dx,dy,b,r1,r2,o,q⟩:=h
 unfold x2s at o
 split at o
 ·split at o
  ·rename_i ds h
   rw[aE]at h
   cases o
   obtain⟨as,ra⟩:=z0S I dx (z0u h.1).1 r1 rx
   obtain⟨bs,rb⟩:=z0S I _ (z0u h.2).1 r2 ry
   have hc:=(z0u h.2).1
   unfold toP at rb hc
   unfold PyData.canLay0 at hc
   refine notIn_list_reads rb ra hc (z0u h.1).1 (by have:=(z0u h.1).2;omega) ?_
   rw[z5j]
   exact⟨.bl _,H,I,rfl,q⟩
  ·cases o
 ·split at o
  ·rename_i ds h
   rw[aE]at h
   cases o
   obtain⟨as,ra⟩:=z0S I dx (z0u h.1).1 r1 rx
   obtain⟨bs,rb⟩:=z0S I _ (z0u h.2).1 r2 ry
   have hc:=(z0u h.2).1
   unfold toP at rb hc
   unfold PyData.canLay0 at hc
   refine notIn_tuple_reads rb ra hc (z0u h.1).1 (by have:=(z0u h.1).2;omega) ?_
   rw[z5j]
   exact⟨.bl _,H,I,rfl,q⟩
  ·cases o
 ·cases o
theorem o2_in{K:aa}:Op2 K (rInD K false) inD:=by
 intro H B dx dy d x y Q hB hx hy q k
 unfold inD at q
 cases e:x2s dx dy with
 |none=>rw[e]at q;cases q
 |some b=>
  rw[e]at q
  cases q
  exact⟨B,dx,dy,b,hx,hy,e,k _ H (.refl H) rfl⟩
theorem o2_nin{K:aa}:Op2 K (rInD K true) x1T:=by
 intro H B dx dy d x y Q hB hx hy q k
 unfold x1T at q
 cases e:x2s dx dy with
 |none=>rw[e]at q;cases q
 |some b=>
  rw[e]at q
  cases q
  exact⟨B,dx,dy,b,hx,hy,e,k _ H (.refl H) rfl⟩
def OpA(K:aa)(r:List V->Hp->VK->Prop)(F:List D->Option D):Prop:=∀(H:Hp) (B:Addr->Prop) (ds:List D) (d:D) (vs:List V) (Q:VK),InB B H->Reps K H B ds vs->F ds=some d->(∀v H',Same H H'->Rep K H' B d v->Q v H')->r vs H Q
def OpL(K:aa)(r:List V->Hp->VK->Prop)(F:List D->Option (List D)):Prop:=∀(H:Hp) (B:Addr->Prop) (ds es:List D) (vs:List V) (Q:VK),InB B H->Reps K H B ds vs->F ds=some es →
 (∀a xs H',Same H H'->H a=none->H' a=some (.lst xs)->Reps K H' B es xs->Q (.ref a) H')->r vs H Q
def z4J(F:List D->Option (List D))(fl:List DE):DS->Option (List D):=fun δ=>(z0m fl δ).bind F
variable{x:Str}{bid T:String}{r:List V->Hp->VK->Prop}{e:Expr}{es:List Expr}{p pos:Pos}{fl:List DE}
theorem callA{F:List D->Option D}(ho:OpA X.K r F)(σ:St)(H:Hp)(Q:VK)(h:tD X.K (z0k F fl) σ H Q):tCB r (tDs X.K (z0m fl)) σ H Q:=by
 obtain⟨B,δ,d,hB,S,q,k⟩:=h
 obtain⟨ds,e1,e2⟩:=z6q q
 exact⟨B,δ,ds,hB,S,e1,fun vs H1 s1 r1=>ho H1 B ds d vs Q (hB.mono s1) r1 e2 fun v H' s' rv=>k v H' (s1.trans s') rv⟩
theorem callL{F:List D->Option (List D)}(ho:OpL X.K r F)(σ:St)(H:Hp)(Q:VK)(h:tF X.K (z4J F fl) σ H Q):tCB r (tDs X.K (z0m fl)) σ H Q:=by
 obtain⟨B,δ,d,hB,S,q,k⟩:=h
 unfold z4J at q
 cases e1:z0m fl δ with
 |none=>rw[e1]at q;cases q
 |some ds=>
  rw[e1]at q
  exact⟨B,δ,ds,hB,S,e1,fun vs H1 s1 r1=>ho H1 B ds d vs Q (hB.mono s1) r1 q fun a xs H' s' hn ha rv=>k a xs H' (s1.trans s') (s1.free hn) ha rv⟩
theorem z3z{F:List D->Option D}(hc:z3w X (.builtin bid) r)(hD:OpA X.K r F)(hg:Gl X x)(hm:X.mg x=none)(hv:fL x=some (.builtin bid))(ha:PAD X (e::es) fl)(hn:x ≠ "__name__" := by decide)(hdb:(x==("__debug__" : Str))=false:=by decide)
  (he:starEach (e::es) X.env=(false,eval e X.env)::starEach es X.env:=by rfl) (hpl:(fI pos (starEach es X.env)).any (·.1)=false:=by rfl):PD X (.Call (.Name x p) (e::es) [] pos) (z0k F fl):=
 (z7a hc hg hm hv ha hn hdb he hpl).imp (callA hD)
theorem x3F{F:List D->Option D}(hc:z3w X (.type T) r)(hD:OpA X.K r F)(hg:Gl X x)(hm:X.mg x=none)(hv:fL x=some (.type T))(ha:PAD X (e::es) fl)(hn:x ≠ "__name__" := by decide)(hdb:(x==("__debug__" : Str))=false:=by decide)
  (he:starEach (e::es) X.env=(false,eval e X.env)::starEach es X.env:=by rfl) (hpl:(fI pos (starEach es X.env)).any (·.1)=false:=by rfl):PD X (.Call (.Name x p) (e::es) [] pos) (z0k F fl):=
 (z5v hc hg hm hv ha hn hdb he hpl).imp (callA hD)
theorem x3Q{F:List D->Option (List D)}(hc:z3w X (.type T) r)(hD:OpL X.K r F)(hg:Gl X x)(hm:X.mg x=none)(hv:fL x=some (.type T))(ha:PAD X (e::es) fl)(hn:x ≠ "__name__" := by decide)(hdb:(x==("__debug__" : Str))=false:=by decide)
  (he:starEach (e::es) X.env=(false,eval e X.env)::starEach es X.env:=by rfl) (hpl:(fI pos (starEach es X.env)).any (·.1)=false:=by rfl):PF X (.Call (.Name x p) (e::es) [] pos) (z4J F fl):=
 (z5v hc hg hm hv ha hn hdb he hpl).imp (callL hD)
theorem z4m{K:aa}{H:Hp}{B:Addr->Prop}{d:D}{vs:List V}(h:Reps K H B [d] vs):∃v,vs=[v]∧Rep K H B d v:=by
 unfold Reps at h
 obtain⟨x,r,rfl,h1,h2⟩:=h
 unfold Reps at h2
 subst h2
 exact⟨x,rfl,h1⟩
def z2t:List D->Option D
 |[.lst ds]=>some (.int ds.length)
 |[.tup ds]=>some (.int ds.length)
 |[.scr ns]=>some (.int ns.length)
 |_=>none
theorem oa_len{K:aa}:OpA K (fun xs H Q=>∃x n,xs=[x]∧LenV K x H n∧Q (.int n) H) z2t:=by
 intro H B ds d vs Q hB hr q k
 unfold z2t at q
 split at q
 ·cases q
  obtain⟨v,rfl,r⟩:=z4m hr
  unfold Rep at r
  obtain⟨a,xs,rfl,_,h,rs⟩:=r
  refine⟨.ref a,xs.length,rfl,.inl ⟨xs,SqL.of h,rfl⟩,k _ H (.refl H) ?_⟩
  show V.int _=V.int _
  rw[rs.length]
 ·cases q
  obtain⟨v,rfl,r⟩:=z4m hr
  unfold Rep at r
  obtain⟨a,xs,rfl,h,rs⟩:=r
  refine⟨.ref a,xs.length,rfl,.inr ⟨xs,h,rfl⟩,k _ H (.refl H) ?_⟩
  show V.int _=V.int _
  rw[rs.length]
 ·cases q
  obtain⟨v,rfl,r⟩:=z4m hr
  unfold Rep at r
  obtain⟨a,rfl,h⟩:=r
  exact⟨.ref a,_,rfl,.inl ⟨_,h.sq,(ah ..).symm⟩,k _ H (.refl H) rfl⟩
 ·cases q
theorem z0L{f:DE}(hg:Gl X "len")(hm:X.mg "len" = none)(h:PD X e f)(he:starEach [e] X.env=[(false,eval e X.env)]:=by rfl):PD X (.Call (.Name "len" p) [e] [] pos) (z0k z2t [f]):=
 z3z x2x oa_len hg hm PySem.boot_len (z0a h z0b he) (by decide) (by decide) he rfl
def z6L:List D->Option (List Bool)
 |[]=>some []
 |.bl b::r=>(z6L r).map (b :: ·)
 |_=>none
def z2d:List D->Option (List Int)
 |[]=>some []
 |.int i::r=>(z2d r).map (i :: ·)
 |_=>none
theorem z6l{K:aa}{H:Hp}{B:Addr->Prop}:∀{ds:List D} {bs:List Bool} {xs:List V},z6L ds=some bs->Reps K H B ds xs->xs=bs.map V.bl
 |[],_,_,e,h=>by cases e;unfold Reps at h;exact h
 |.bl b::r,bs,xs,e,h=>by
  unfold z6L at e
  cases q:z6L r with
  |none=>rw[q]at e;cases e
  |some cs=>
   rw[q]at e
   cases e
   unfold Reps at h
   obtain⟨x,r',rfl,h1,h2⟩:=h
   rw[z6l q h2,show x=V.bl b from h1]
   rfl
 |.non::_,_,_,e,_=>nomatch e
 |.int _::_,_,_,e,_=>nomatch e
 |.str _::_,_,_,e,_=>nomatch e
 |.lst _::_,_,_,e,_=>nomatch e
 |.tup _::_,_,_,e,_=>nomatch e
 |.dct _ _::_,_,_,e,_=>nomatch e
 |.exc _::_,_,_,e,_=>nomatch e
 |.obj _ _ _ _::_,_,_,e,_=>nomatch e
 |.cel _ _::_,_,_,e,_=>nomatch e
 |.scr _::_,_,_,e,_=>nomatch e
theorem z5z{K:aa}{H:Hp}{B:Addr->Prop}:∀{ds:List D} {bs:List Int} {xs:List V},z2d ds=some bs->Reps K H B ds xs->xs=bs.map V.int
 |[],_,_,e,h=>by cases e;unfold Reps at h;exact h
 |.int b::r,bs,xs,e,h=>by
  unfold z2d at e
  cases q:z2d r with
  |none=>rw[q]at e;cases e
  |some cs=>
   rw[q]at e
   cases e
   unfold Reps at h
   obtain⟨x,r',rfl,h1,h2⟩:=h
   rw[z5z q h2,show x=V.int b from h1]
   rfl
 |.non::_,_,_,e,_=>nomatch e
 |.bl _::_,_,_,e,_=>nomatch e
 |.str _::_,_,_,e,_=>nomatch e
 |.lst _::_,_,_,e,_=>nomatch e
 |.tup _::_,_,_,e,_=>nomatch e
 |.dct _ _::_,_,_,e,_=>nomatch e
 |.exc _::_,_,_,e,_=>nomatch e
 |.obj _ _ _ _::_,_,_,e,_=>nomatch e
 |.cel _ _::_,_,_,e,_=>nomatch e
 |.scr _::_,_,_,e,_=>nomatch e
theorem z9C:∀{bs:List Bool} {us:List Value},Vals (bs.map V.bl) us->PyProof.Rows.LSm.BoolsAre us bs
 |[],_,.nil=>.nil
 |b::bs,_,.cons r t=>by
  cases r
  exact .cons b (z9C t)
theorem x0j(hc:X.calm=true):z3w X (.builtin "all") (fun xs H Q=>∃(p:Addr) (bs:List Bool),xs=[.ref p]∧SqL X.K H p (bs.map V.bl)∧Q (.bl (bs.all (fun b=>b))) H):=by
 intro pins s σ H xs us Q I r h
 obtain⟨p,bs,rfl,hq,q⟩:=h
 obtain⟨u,rfl,ru⟩:=z6O r
 cases ru
 obtain⟨its,rv,pl,hz⟩:=I.list hq
 have hl:=pl.isList
 have hb:=z9C rv
 have hlt:p<s.heap.objs.size:=by obtain⟨_,e,_⟩:=hl;exact Heap.lt_size e
 refine call_all_walk (wpAny_pyIter_list hl ?_)
 refine⟨s.heap.objs.size,[s.heap.objs.size,p],[s.heap.objs.size],its.toArray.size,_,_,fun i=>(bs[i]?).getD true,rfl,Walks.list (A:=X.A.in1) (I.ok.hd hc) _ p (aH hlt) its.toArray,
  ⟨⟨_,Heap.get?_push_size _ rfl,rfl,rfl⟩,hl.push _⟩,fun i v s' Q' E' hP hQ=>?_,fun h' tk hk=>?_⟩
 ·obtain⟨b,e,rfl⟩:=hb.get i v (by simpa using hP)
  simp only[e,cA]at hQ
  exact wpAny_truthy_bool hQ
 ·have e:((ad its.toArray.size).all fun i=>(bs[i]?).getD true)=bs.all (fun b=>b):=by
   rw[av,hb.length];exact LSm.range_all bs
  rw[e]
  exact⟨.bl _,H,I.kept (LSm.kept_iter hk),rfl,q⟩
theorem x1f(hc:X.calm=true):z3w X (.builtin "any") (fun xs H Q=>∃(p:Addr) (bs:List Bool),xs=[.ref p]∧SqL X.K H p (bs.map V.bl)∧Q (.bl (bs.any (fun b=>b))) H):=by
 intro pins s σ H xs us Q I r h
 obtain⟨p,bs,rfl,hq,q⟩:=h
 obtain⟨u,rfl,ru⟩:=z6O r
 cases ru
 obtain⟨its,rv,pl,hz⟩:=I.list hq
 have hl:=pl.isList
 have hb:=z9C rv
 have hlt:p<s.heap.objs.size:=by obtain⟨_,e,_⟩:=hl;exact Heap.lt_size e
 refine call_any_walk (wpAny_pyIter_list hl ?_)
 refine⟨s.heap.objs.size,[s.heap.objs.size,p],[s.heap.objs.size],its.toArray.size,_,_,fun i=>(bs[i]?).getD false,rfl,Walks.list (A:=X.A.in1) (I.ok.hd hc) _ p (aH hlt) its.toArray,
  ⟨⟨_,Heap.get?_push_size _ rfl,rfl,rfl⟩,hl.push _⟩,fun i v s' Q' E' hP hQ=>?_,fun h' tk hk=>?_⟩
 ·obtain⟨b,e,rfl⟩:=hb.get i v (by simpa using hP)
  simp only[e,cA]at hQ
  exact wpAny_truthy_bool hQ
 ·have e:((ad its.toArray.size).any fun i=>(bs[i]?).getD false)=bs.any (fun b=>b):=by
   rw[av,hb.length];exact LSm.range_any bs
  rw[e]
  exact⟨.bl _,H,I.kept (LSm.kept_iter hk),rfl,q⟩
theorem y9m(hc:X.calm=true):z3w X (.builtin "sum") (fun xs H Q=>∃(p:Addr) (ns:List Int),xs=[.ref p]∧SqL X.K H p (ns.map V.int)∧Q (.int ns.sum) H):=by
 intro pins s σ H xs us Q I r h
 obtain⟨p,ns,rfl,hq,q⟩:=h
 obtain⟨u,rfl,ru⟩:=z6O r
 cases ru
 obtain⟨its,rv,pl,hz⟩:=I.list hq
 have hi:=z6j rv
 obtain⟨xs,hx⟩:=hi.allInts.items
 have hl':s.heap.IsList p (intItems xs):=hx ▸ pl.isList
 refine sum_intListG (I.ok.hd hc) hl' fun h' tk t' hk=>?_
 have e1:ns=xs.toList.map (·.1):=by
  rw[←nums_intItems,←hx]
  exact(show numsOf its.toArray.toList=ns from hi.numsOf).symm
 have e2:preSum (numAt xs) xs.size=ns.sum:=by
  rw[preSum_eq,cX (by simp),e1]
 rw[e2]
 exact⟨.int _,H,I.kept hk,⟨_,rfl⟩,q⟩
def allF:List D->Option D
 |[.lst ds]=>(z6L ds).map fun bs=>.bl (bs.all (fun b=>b))
 |_=>none
def anyF:List D->Option D
 |[.lst ds]=>(z6L ds).map fun bs=>.bl (bs.any (fun b=>b))
 |_=>none
def sumF:List D->Option D
 |[.lst ds]=>(z2d ds).map fun ns=>.int ns.sum
 |_=>none
theorem oa_all{K:aa}:OpA K (fun xs H Q=>∃(p:Addr) (bs:List Bool),xs=[.ref p]∧SqL K H p (bs.map V.bl)∧Q (.bl (bs.all (fun b=>b))) H) allF:=by
 intro H B ds d vs Q hB hr q k
 unfold allF at q
 split at q
 ·rename_i es
  cases e:z6L es with
  |none=>rw[e]at q;cases q
  |some bs=>
   rw[e]at q
   cases q
   obtain⟨v,rfl,r⟩:=z4m hr
   unfold Rep at r
   obtain⟨a,xs,rfl,_,h,rs⟩:=r
   rw[z6l e rs]at h
   exact⟨a,bs,rfl,SqL.of h,k _ H (.refl H) rfl⟩
 ·cases q
theorem oa_any{K:aa}:OpA K (fun xs H Q=>∃(p:Addr) (bs:List Bool),xs=[.ref p]∧SqL K H p (bs.map V.bl)∧Q (.bl (bs.any (fun b=>b))) H) anyF:=by
 intro H B ds d vs Q hB hr q k
 unfold anyF at q
 split at q
 ·rename_i es
  cases e:z6L es with
  |none=>rw[e]at q;cases q
  |some bs=>
   rw[e]at q
   cases q
   obtain⟨v,rfl,r⟩:=z4m hr
   unfold Rep at r
   obtain⟨a,xs,rfl,_,h,rs⟩:=r
   rw[z6l e rs]at h
   exact⟨a,bs,rfl,SqL.of h,k _ H (.refl H) rfl⟩
 ·cases q
theorem oa_sum{K:aa}:OpA K (fun xs H Q=>∃(p:Addr) (ns:List Int),xs=[.ref p]∧SqL K H p (ns.map V.int)∧Q (.int ns.sum) H) sumF:=by
 intro H B ds d vs Q hB hr q k
 unfold sumF at q
 split at q
 ·rename_i es
  cases e:z2d es with
  |none=>rw[e]at q;cases q
  |some bs=>
   rw[e]at q
   cases q
   obtain⟨v,rfl,r⟩:=z4m hr
   unfold Rep at r
   obtain⟨a,xs,rfl,_,h,rs⟩:=r
   rw[z5z e rs]at h
   exact⟨a,bs,rfl,SqL.of h,k _ H (.refl H) rfl⟩
 ·cases q
theorem y7t{f:DE}(hc:X.calm=true)(hg:Gl X "all")(hm:X.mg "all" = none)(h:PD X e f)(he:starEach [e] X.env=[(false,eval e X.env)]:=by rfl):PD X (.Call (.Name "all" p) [e] [] pos) (z0k allF [f]):=
 z3z (x0j hc) oa_all hg hm PyProof.Rows.Boot.«all» (z0a h z0b he) (by decide) (by decide) he rfl
theorem pd_any{f:DE}(hc:X.calm=true)(hg:Gl X "any")(hm:X.mg "any" = none)(h:PD X e f)(he:starEach [e] X.env=[(false,eval e X.env)]:=by rfl):PD X (.Call (.Name "any" p) [e] [] pos) (z0k anyF [f]):=
 z3z (x1f hc) oa_any hg hm PyProof.Rows.Boot.«any» (z0a h z0b he) (by decide) (by decide) he rfl
theorem x5y{f:DE}(hc:X.calm=true)(hg:Gl X "sum")(hm:X.mg "sum" = none)(h:PD X e f)(he:starEach [e] X.env=[(false,eval e X.env)]:=by rfl):PD X (.Call (.Name "sum" p) [e] [] pos) (z0k sumF [f]):=
 z3z (y9m hc) oa_sum hg hm boot_sum (z0a h z0b he) (by decide) (by decide) he rfl
def y0x:List D->Option (List D)
 |[.lst ds]=>some ds
 |[.tup ds]=>some ds
 |[.scr ns]=>some (ns.map .int)
 |_=>none
theorem ol_list{K:aa}:OpL K (fun xs H Q=>∃p ys,xs=[.ref p]∧(SqL K H p ys∨SqT K H p ys)∧∀l,H l=none->Q (.ref l) (upd H l (.lst ys))) y0x:=by
 intro H B ds es vs Q hB hr q k
 unfold y0x at q
 split at q
 ·cases q
  obtain⟨v,rfl,r⟩:=z4m hr
  unfold Rep at r
  obtain⟨a,xs,rfl,_,h,rs⟩:=r
  exact⟨a,xs,rfl,.inl (SqL.of h),fun l hl=>k l xs _ (z0n hl) hl z0o (rs.mono (z0n hl))⟩
 ·cases q
  obtain⟨v,rfl,r⟩:=z4m hr
  unfold Rep at r
  obtain⟨a,xs,rfl,h,rs⟩:=r
  exact⟨a,xs,rfl,.inr h,fun l hl=>k l xs _ (z0n hl) hl z0o (rs.mono (z0n hl))⟩
 ·cases q
  obtain⟨v,rfl,r⟩:=z4m hr
  unfold Rep at r
  obtain⟨a,rfl,h⟩:=r
  exact⟨a,_,rfl,.inl h.sq,fun l hl=>k l _ _ (z0n hl) hl z0o (z2F _)⟩
 ·cases q
theorem z8h{f:DE}(hg:Gl X "list")(hm:X.mg "list" = none)(h:PD X e f)(he:starEach [e] X.env=[(false,eval e X.env)]:=by rfl):PF X (.Call (.Name "list" p) [e] [] pos) (z4J y0x [f]):=
 x3Q y1B ol_list hg hm PyProof.Rows.Boot.«list» (z0a h z0b he) (by decide) (by decide) he rfl
def x1U:List D->Option D
 |[.lst ds]=>some (.tup ds)
 |[.tup ds]=>some (.tup ds)
 |_=>none
theorem oa_tup{K:aa}:OpA K (fun xs H Q=>∃p ys,xs=[.ref p]∧((SqL K H p ys∧∀l,H l=none->Q (.ref l) (upd H l (.tup ys)))∨(SqT K H p ys∧Q (.ref p) H))) x1U:=by
 intro H B ds d vs Q hB hr q k
 unfold x1U at q
 split at q
 ·cases q
  obtain⟨v,rfl,r⟩:=z4m hr
  unfold Rep at r
  obtain⟨a,xs,rfl,_,h,rs⟩:=r
  exact⟨a,xs,rfl,.inl ⟨SqL.of h,fun l hl=>k _ _ (z0n hl) (by unfold Rep;exact⟨l,xs,rfl,SqT.of z0o,rs.mono (z0n hl)⟩)⟩⟩
 ·cases q
  obtain⟨v,rfl,r⟩:=z4m hr
  have r0:=r
  unfold Rep at r
  obtain⟨a,xs,rfl,h,rs⟩:=r
  exact⟨a,xs,rfl,.inr ⟨h,k _ _ (.refl H) r0⟩⟩
 ·cases q
theorem z7d{f:DE}(hg:Gl X "tuple")(hm:X.mg "tuple" = none)(h:PD X e f)(he:starEach [e] X.env=[(false,eval e X.env)]:=by rfl):PD X (.Call (.Name "tuple" p) [e] [] pos) (z0k x1U [f]):=
 x3F z9J oa_tup hg hm PyProof.Rows.Boot.«tuple» (z0a h z0b he) (by decide) (by decide) he rfl
end
end L2
namespace L2
open PySem PySem.Spec PyProof.Rows
def tyN:D->String
 |.non => "NoneType"
 |.bl _ => "bool"
 |.int _ => "int"
 |.str _ => "str"
 |.lst _ => "list"
 |.tup _ => "tuple"
 |.scr _ => "list"
 |.dct _ _ => "dict"
 |.exc _ => "object"
 |.obj _ _ _ _ => "object"
 |.cel _ _ => "list"
inductive IsT:String->Prop where
 |bool:IsT "bool" |int:IsT "int" |str:IsT "str" |list:IsT "list" |tuple:IsT "tuple" |dict:IsT "dict"
def isF(T:String)(d:D):Bool:=tyN d==T||(tyN d == "bool" && T == "int")
theorem kit_tt(K:aa){T:String}(h:IsT T)(d:D)(hd:∀x,d≠.exc x)(hd2:∀x a ks ds,d≠.obj x a ks ds):aN K (.type (tyN d)) (.type T)=some (isF T d):=by
 cases h <;> cases d <;> first | kernel_rfl | exact absurd rfl (hd _) | exact absurd rfl (hd2 _ _ _ _)
section
variable{prog:dw}{w:fE}{A:Around}{E:Value->Shared->Prop}{K:aa}{x D:Addr}{ox:Obj}{s:Shared}
theorem y9b{Q:Option Value->Shared->Prop}(X:K.In s.heap)(I:c4 s.heap x ox D none)(hga:aU K (.ref D) "__getattribute__" = some (some (.builtin "BaseException.__getattribute__")))(hgh:aU K (.ref D) "__getattr__" = some none)
  (hf:dD K D none "__class__" = some (.bind (.builtin "getset_descriptor.__get__") (.builtin "object.__class__"))) (hm:bL K D (.type "object")=some true) (hb:bL K D (.type "BaseException")=some true)
  (h:Q (some (.ref D)) { s with toks:=s.toks+1 }):wpAny (model prog w) A (getAttr? (.ref x) "__class__") Q E s:=by
 obtain⟨hp,gs,dr,tk,os⟩:=s
 have T0:=I.type (M:=model prog w)
 have T1:=eL (M:=model prog w) X hga
 have T2:=eL (M:=model prog w) X hgh
 have T3:=PySem.W.looks_find (M:=model prog w) X I hf
 have T4:=PySem.W.looks_mroIn (M:=model prog w) X hb
 have hne:(onTheHeap (Value.ref D)&&Value.builtin "BaseException.__getattribute__" == Value.builtin "object.__getattribute__")=false:=by
  have z:(Value.builtin "BaseException.__getattribute__" == Value.builtin "object.__getattribute__")=false:=by decide +kernel
  rw[z,Bool.and_false]
 unfold getAttr? getAttrBy?
 refine wpAny_bind (wpAny_mkText ?_)
 refine wpAny_bind (wpAny_attempt ?_)
 unfold getAttrBy
 refine wpAny_holding (wpAny_bind (T0.at ?_))
 refine wpAny_bind (T1.at ?_)
 dsimp only
 rw[hne,if_neg ar]
 unfold getAttrByItsOwn hookBefore
 rw[if_pos (show onTheHeap (Value.ref D)=true from rfl)]
 refine wpAny_bind (T2.at ?_)
 refine wpAny_bind (wpAny_attempt (wpAny_holding ?_))
 unfold callGetattribute boundAndCalled
 rw[eD,if_neg ar,F.excAttr_ValueError.ga.bind]
 refine wpAny_bind (wpAny_pure ?_)
 refine wpAny_call (codeAny_call_builtin F.excAttr_ValueError.ga.plain F.entry_bexc_ga ?_)
 have k1:builtinKind "BaseException.__getattribute__" = some .slot:=by decide +kernel
 have k2:splitId "BaseException.__getattribute__" = some ("BaseException", "__getattribute__"):=by decide +kernel
 simp only[checkBuiltinCall,k1,k2]
 have ha:=F.args_bexc_ga (.ref x) (.str "__class__" tk)
 have TI:PySem.W.Looks (model prog w) hp (isInstance (.ref x) (.type "BaseException")) true:=T0.andThen T4
 show wpAny _ _ (isInstance (.ref x) (.type "BaseException") >>= _) _ _ _
 refine wpAny_bind (TI.at ?_)
 rw[if_neg (by decide)]
 unfold argsOk at ha
 refine wpAny_of_eq (a:=()) ha ?_
 unfold Builtin.«object.__getattribute__»
 refine wpAny_bind (wpAny_of_eq (a:=(Value.ref x,[Value.str "__class__" tk])) rfl ?_)
 dsimp only
 refine wpAny_bind (wpAny_of_eq (a:=("__class__" : Str)) rfl ?_)
 refine wpAny_bind (T0.at ?_)
 refine wpAny_bind (T3.at ?_)
 show wpAny _ _ (holding [Value.builtin "object.__class__"] (call (.builtin "getset_descriptor.__get__") [.builtin "object.__class__",.ref x,.ref D]) >>= ret) _ _ _
 refine wpAny_bind (wpAny_holding (wpAny_call (PySem.W.class_get X I hm ?_)))
 refine wpAny_pure ?_
 exact PySem.W.handed_on rfl (wpAny_pure h)
end
theorem xcls_of{K:aa}{C:Addr}(h:z4W K C=true):aU K (.ref C) "__getattribute__" = some (some (.builtin "BaseException.__getattribute__"))∧aU K (.ref C) "__getattr__" = some none∧bL K C (.type "BaseException")=some true∧(dY K C).isSome=true ∧
  aU K (.ref C) "__class__" = some (some (.builtin "object.__class__"))∧bX K (.builtin "object.__class__") "__get__" = some (some (.builtin "getset_descriptor.__get__"))∧cE K (.builtin "object.__class__")=some true∧bL K C (.type "object")=some true:=by
 unfold z4W at h
 simp only[aE,beq_iff_eq]at h
 exact⟨h.1.1.1.1.1.1.1.1,h.1.1.1.1.1.1.1.2,h.1.1.1.1.1.1.2,h.1.1.1.1.1.2,h.1.1.1.1.2,h.1.1.1.2,h.1.1.2,h.1.2⟩
theorem icls_of{K:aa}{C:Addr}{ks:List Str}(h:y6C K C ks=true):Cls K C∧aU K (.ref C) "__class__" = some (some (.builtin "object.__class__"))∧bX K (.builtin "object.__class__") "__get__" = some (some (.builtin "getset_descriptor.__get__"))∧cE K (.builtin "object.__class__")=some true∧bL K C (.type "object")=some true ∧
  (["bool", "int", "str", "list", "tuple", "dict"].all fun T=>aN K (.ref C) (.type T)==some false)=true∧∀f∈ks,NoAttr K C f:=by
 unfold y6C at h
 rw[ax,ax,ax,ax,ax,ax,ax,ax,ax]at h
 obtain⟨⟨⟨⟨⟨⟨⟨⟨⟨a1,a2⟩,a3⟩,a4⟩,a5⟩,a6⟩,a7⟩,a8⟩,a9⟩,a10⟩:=h
 rw[aI]at a10
 exact⟨⟨a1,a2,a3,beq_iff_eq.mp a4⟩,beq_iff_eq.mp a5,beq_iff_eq.mp a6,beq_iff_eq.mp a7,beq_iff_eq.mp a8,a9,fun f hf=>beq_iff_eq.mp (a10 f hf)⟩
theorem y5w{K:aa}{x C:Addr}{ox:Obj}(h:z4W K C=true):PySem.W.KitX K (.ref x) (.ref C) (fun g=>c4 g x ox C none):=by
 obtain⟨g1,g2,g3,h2,h3,h4,h5,h6⟩:=xcls_of h
 obtain⟨cd,hcd⟩:=bN.mp h2
 have hk:∃c d sl,K.lookup C=some ⟨c,d,.cls cd,sl⟩:=by
  unfold dY at hcd
  split at hcd
  ·cases hcd;exact⟨_,_,_,by assumption⟩
  ·cases hcd
 obtain⟨c0,d0,sl0,hk⟩:=hk
 have hf:dD K C none "__class__" = some (.bind (.builtin "getset_descriptor.__get__") (.builtin "object.__class__")):=by
  unfold dD
  rw[hcd,aj,h3,aj]
  simp[h4,h5]
 refine⟨fun _ _ _ I=>I.type,fun _ _ X _=>?_,fun g tp dd its n sl X ht=>?_,fun X I k=>?_⟩
 ·intro A' Q' E' s' kk q
  unfold isType loadHead
  exact wpAny_bind (wpAny_loadPart (kk _ _ (X _ _ hk)) (wpAny_pure q))
 ·cases hz:(Value.ref C==Value.ref tp)with
  |false=>rfl
  |true=>
   have e:C=tp:=Value.ref.inj (beq_iff_eq.mp hz)
   rw[←e]at ht
   have z:=(X _ _ hk).symm.trans ht
   cases z
 ·exact y9b X I g1 g2 hf h6 g3 k
theorem x4Q{X:Cx}{pins:List (Addr×Obj)}{σ:St}{H:Hp}{s:Shared}{a C:Addr}(I:Inv X pins σ H s)(h:H a=some (.ext (isX a C))):∃o,c4 s.heap a o C none:=by
 obtain⟨⟨o,h1,h2,h3,h4⟩,_⟩:=(show ObjOk X.prog X.w H s.heap a (.ext (isX a C)) from I.hok a _ h)
 exact⟨o,h1,h2,h4,by rw[h3];trivial⟩
section
variable{X:Cx}{pins:List (Addr×Obj)}{σ:St}{H:Hp}{s:Shared}{B:Addr->Prop}{A:Around}{E:Value->Shared->Prop}{Q:Value->Shared->Prop}
theorem y6z{d:D}{v:V}{u:Value}{T:String}(I:Inv X pins σ H s)(r:Rep X.K H B d v)(rv:RelV v u)(hT:IsT T)(h:∀tk,Q (.bool (isF T d)) { s with toks:=tk }):wpAny (model X.prog X.w) A (call (.builtin "isinstance") [u,.type T]) Q E s:=by
 by_cases hd:∃x,d = .exc x
 ·obtain⟨x,rfl⟩:=hd
  unfold Rep at r
  obtain⟨a,C,rfl,_,hq,_,hx⟩:=r
  cases rv
  obtain⟨o,ie⟩:=x4Q I hq
  have e:aN X.K (.ref C) (.type T)=some (isF T (.exc x)):=by
   have h6:=(ax.mp hx).2
   rw[aI]at h6
   have h7:=beq_iff_eq.mp (h6 T (by cases hT <;> decide))
   rw[h7]
   cases hT <;> rfl
  exact bc (y5w hx) I.kIn ie e (fun z=>nomatch z) h
 have hd:∀x,d≠.exc x:=fun x z=>hd ⟨x,z⟩
 by_cases hd2:∃x a ks ds,d = .obj x a ks ds
 ·obtain⟨x,a,ks,ds,rfl⟩:=hd2
  unfold Rep at r
  obtain⟨C,dx,fs,_,hq,⟨rfl,_,hx,_⟩,_⟩:=r
  cases rv
  obtain⟨cl,h3,h4,h5,h6,h7,_⟩:=icls_of hx
  obtain⟨mA,O,_⟩:=ins_get I.hok hq
  obtain⟨od,J,_⟩:=O.look
  have e:aN X.K (.ref C) (.type T)=some (isF T (.obj x a ks ds)):=by
   rw[aI]at h7
   have h8:=beq_iff_eq.mp (h7 T (by cases hT <;> decide))
   rw[h8]
   cases hT <;> rfl
  exact bc (PySem.W.kitx_own (cl.get _) cl.hd h3 h4 h5 h6) I.kIn J e (fun z=>nomatch z) h
 have e:=kit_tt X.K hT d hd (fun x a ks ds z=>hd2 ⟨x,a,ks,ds,z⟩)
 cases d with
 |exc x=>exact absurd rfl (hd x)
 |obj x a ks ds=>exact absurd ⟨x,a,ks,ds,rfl⟩ hd2
 |non=>cases r;cases rv;exact bc PySem.W.kitx_none I.kIn True.intro e (fun z=>nomatch z) h
 |bl y=>cases r;cases rv;exact bc PySem.W.kitx_bool I.kIn True.intro e (fun z=>nomatch z) h
 |int i=>cases r;obtain⟨t,q⟩:=rv;cases q;exact bc PySem.W.kitx_int I.kIn True.intro e (fun z=>nomatch z) h
 |str y=>cases r;obtain⟨t,q⟩:=rv;cases q;exact bc PySem.W.kitx_str I.kIn True.intro e (fun z=>nomatch z) h
 |cel a ds=>
  unfold Rep at r
  obtain⟨xs,_,hq,rfl,_⟩:=r
  cases rv
  obtain⟨its,_,⟨o,n,e1,c,_⟩,_⟩:=I.list (SqL.of hq)
  exact bc df I.kIn ⟨o,e1,c⟩ e (fun z=>nomatch z) h
 |lst ds=>
  unfold Rep at r
  obtain⟨a,xs,rfl,_,hq,_⟩:=r
  cases rv
  obtain⟨its,_,⟨o,n,e1,c,_⟩,_⟩:=I.list (SqL.of hq)
  exact bc df I.kIn ⟨o,e1,c⟩ e (fun z=>nomatch z) h
 |tup ds=>
  unfold Rep at r
  obtain⟨a,xs,rfl,hq,_⟩:=r
  cases rv
  obtain⟨its,_,⟨o,e1,c,_⟩,_⟩:=I.tuple hq
  exact bc PySem.W.kitx_tuple I.kIn ⟨o,e1,c⟩ e (fun z=>nomatch z) h
 |scr ns=>
  unfold Rep at r
  obtain⟨a,rfl,hq⟩:=r
  cases rv
  obtain⟨its,_,⟨o,n,e1,c,_⟩,_⟩:=I.list hq.sq
  exact bc df I.kIn ⟨o,e1,c⟩ e (fun z=>nomatch z) h
 |dct ks ds=>
  unfold Rep at r
  obtain⟨a,kvs,rfl,_,ea,_⟩:=r
  cases rv
  obtain⟨_,_,vs,_,p⟩:=(show ObjOk X.prog X.w H s.heap a (.dK kvs) from I.hok a _ ea)
  obtain⟨o,es,ep,h1,h2,_⟩:=p
  exact bc PySem.W.kitx_dict I.kIn ⟨o,h1,h2.1⟩ e (fun z=>nomatch z) h
end
section
variable{X:Cx}{e:Expr}{p p2 pos:Pos}
def dIs(T:String)(f:DE):DE:=fun δ=>(f δ).map fun d=>.bl (isF T d)
theorem x2N{T:String}(hT:IsT T):z3w X (.builtin "isinstance") (fun xs H Q=>∃B d v,xs=[v,.ty T]∧Rep X.K H B d v∧Q (.bl (isF T d)) H):=by
 intro pins s σ H xs us Q I r h
 obtain⟨B,d,v,rfl,rv,q⟩:=h
 obtain⟨u,w',rfl,r1,r2⟩:=vals2 r
 cases r2
 exact y6z I rv r1 hT fun tk=>⟨.bl _,H,I.tok tk,rfl,q⟩
theorem x1X{f:DE}{x:Str}{T:String}(hT:IsT T)(hb:fL x=some (.type T))(hx:Gl X x)(hmx:X.mg x=none)(hnx:x ≠ "__name__")(hdx:(x==("__debug__" : Str))=false)(hg:Gl X "isinstance")(hm:X.mg "isinstance" = none)(h:PD X e f)
  (he:starEach [e,.Name x p2] X.env=[(false,eval e X.env),(false,eval (.Name x p2) X.env)]:=by rfl) (he2:starEach [.Name x p2] X.env=[(false,eval (.Name x p2) X.env)]:=by rfl):PD X (.Call (.Name "isinstance" p) [e,.Name x p2] [] pos) (dIs T f):=
 (z7a (x2N hT) hg hm boot_isinstance (z0M h (z0M (y8V (v:=.ty T) hx hmx hb rfl hnx hdx) pa_nil he2) (by rw[he,he2])) (by decide) (by decide) (by rw[he,he2]) (by rw[he2];rfl)).imp fun σ H Q ⟨B,δ,d,hB,S,q,k⟩=>by
  unfold dIs at q
  cases e1:f δ with
  |none=>rw[e1]at q;cases q
  |some d'=>
   rw[e1]at q
   cases q
   exact⟨B,δ,d',hB,S,e1,fun v H1 s1 r1=>⟨B,d',v,rfl,r1,k _ H1 s1 rfl⟩⟩
theorem y1P{f:DE}(hx:Gl X "bool")(hmx:X.mg "bool" = none)(hg:Gl X "isinstance")(hm:X.mg "isinstance" = none)(h:PD X e f)(he:starEach [e,.Name "bool" p2] X.env=[(false,eval e X.env),(false,eval (.Name "bool" p2) X.env)]:=by rfl):
  PD X (.Call (.Name "isinstance" p) [e,.Name "bool" p2] [] pos) (dIs "bool" f):=x1X .bool PyProof.Rows.Boot.«bool» hx hmx (by decide) (by decide) hg hm h he rfl
theorem x2n{f:DE}(hx:Gl X "int")(hmx:X.mg "int" = none)(hg:Gl X "isinstance")(hm:X.mg "isinstance" = none)(h:PD X e f)(he:starEach [e,.Name "int" p2] X.env=[(false,eval e X.env),(false,eval (.Name "int" p2) X.env)]:=by rfl):
  PD X (.Call (.Name "isinstance" p) [e,.Name "int" p2] [] pos) (dIs "int" f):=x1X .int PyProof.Rows.Boot.«int» hx hmx (by decide) (by decide) hg hm h he rfl
theorem x1I{f:DE}(hx:Gl X "list")(hmx:X.mg "list" = none)(hg:Gl X "isinstance")(hm:X.mg "isinstance" = none)(h:PD X e f)(he:starEach [e,.Name "list" p2] X.env=[(false,eval e X.env),(false,eval (.Name "list" p2) X.env)]:=by rfl):
  PD X (.Call (.Name "isinstance" p) [e,.Name "list" p2] [] pos) (dIs "list" f):=x1X .list PyProof.Rows.Boot.«list» hx hmx (by decide) (by decide) hg hm h he rfl
theorem y4F{f:DE}(hx:Gl X "tuple")(hmx:X.mg "tuple" = none)(hg:Gl X "isinstance")(hm:X.mg "isinstance" = none)(h:PD X e f)(he:starEach [e,.Name "tuple" p2] X.env=[(false,eval e X.env),(false,eval (.Name "tuple" p2) X.env)]:=by rfl):
  PD X (.Call (.Name "isinstance" p) [e,.Name "tuple" p2] [] pos) (dIs "tuple" f):=x1X .tuple PyProof.Rows.Boot.«tuple» hx hmx (by decide) (by decide) hg hm h he rfl
end
def y3n(i:Nat):Option SD->Option SD
 |some (.bo r d)=>if r=i then none else some (.bo r d)
 |o=>o
def z0t(i:Nat)(δ:SS):SS:=δ.map (y3n i)
theorem z4z{i j:Nat}{δ:SS}{x:SD}(h:(z0t i δ)[j]? = some (some x)):δ[j]? = some (some x)∧∀d,x≠.bo i d:=by
 unfold z0t at h
 rw[ay]at h
 cases e:δ[j]? with
 |none=>rw[e]at h;cases h
 |some o=>
  rw[e]at h
  have h':y3n i o=some x:=Option.some.inj h
  unfold y3n at h'
  split at h'
  ·rename_i r d
   split at h'
   ·cases h'
   ·rename_i hr
    cases h'
    exact⟨rfl,fun d' z=>by cases z;exact hr rfl⟩
  ·rename_i hn
   subst h'
   exact⟨rfl,fun d z=>hn i d (by rw[z])⟩
section
variable{K:aa}{H0 H:Hp}{B0:Addr->Prop}{σ:St}{δ:SS}{R:Nat->List Addr}
theorem RS.rewrite{Hold:Hp}{i:Nat}{d d':D}{a:Addr}{o:HO}{v:V}{A':List Addr}(h:RS K H0 B0 Hold σ δ R)(e:Same Hold H)(hi:δ[i]? = some (some (.ow d)))(hv:σ[i]? = some (some v))(ha:a∈R i)(t:Tree K (upd H a o) d' v A')(nd:A'.Nodup)(sub:∀b∈A',b∈R i∨Hold b=none):
  RS K H0 B0 (upd H a o) σ ((z0t i δ).set i (some (.ow d'))) (y0W R i A')∧Stp R Hold (y0W R i A') (upd H a o):=by
 have hm:=h.mono e
 obtain⟨oa,ea,ma⟩:=hm.held i a ha
 have mH:Mut (H a):=by rw[ea];exact ma
 have mem:∀r b,b∈y0W R i A' r->b∈R r∨(r=i∧Hold b=none):=fun r b z=>by
  by_cases hr:r=i
  ·subst hr;rw[z0V]at z;exact(sub b z).imp id fun q=>⟨rfl,q⟩
  ·rw[z1E hr]at z;exact .inl z
 have kt:KeepI K H (upd H a o):=(Keep.upd (K:=K) (B:=fun x=>x=a) rfl mH).i
 have nh:∀r b,b∈R r->Hold b=none->False:=fun r b z q=>by
  obtain⟨u,q',_⟩:=h.held r b z
  rw[q]at q';cases q'
 refine⟨⟨fun b u q=>?_,h.inB,by simp[z0t,h.len],fun r b z=>?_,fun r b z=>?_,fun r s b z z'=>?_,fun j d2 z=>?_,fun j r2 d2 z=>?_,fun j d2 z=>?_⟩,⟨fun b u q n=>?_,fun r b z=>?_,fun b z=>?_⟩⟩
 ·have ne:b≠a:=fun z=>by subst z;rw[h.new i b ha]at q;cases q
  rw[z0v ne];exact hm.keep b u q
 ·rcases mem r b z with z | ⟨_,z⟩
  ·exact h.new r b z
  ·exact h.keep.free z
 ·by_cases hr:r=i
  ·subst hr;rw[z0V]at z;exact t.held d' b z
  ·rw[z1E hr]at z
   have ne:b≠a:=fun q=>hr (h.disj r i b z (q ▸ ha))
   rw[z0v ne];exact hm.held r b z
 ·rcases mem r b z with z | ⟨z1,z2⟩ <;> rcases mem s b z' with z' | ⟨z1',z2'⟩
  ·exact h.disj r s b z z'
  ·exact(nh r b z z2').elim
  ·exact(nh s b z' z2).elim
  ·rw[z1,z1']
 ·rcases z2n z with⟨rfl,q,_⟩ | ⟨hj,q⟩
  ·cases q
  ·obtain⟨q1,_⟩:=z4z q
   obtain⟨w,e1,r⟩:=h.sh j d2 q1
   have r2:=(Rep.wide (C:=fun b=>Hold b=none) (fun _ z=>z) d2 r).mono e
   refine⟨w,e1,Rep.anti ?_ d2 (Rep.keep (.upd (.inl (.inr ⟨i,ha⟩)) mH) d2 r2)⟩
   rintro b (z | ⟨r,z⟩)
   ·exact .inl (.inl z)
   ·rcases mem r b z with z | ⟨_,z⟩
    ·exact .inl (.inr ⟨r,z⟩)
    ·exact .inr z
 ·rcases z2n z with⟨rfl,q,_⟩ | ⟨hj,q⟩
  ·cases q
  ·obtain⟨q1,q2⟩:=z4z q
   have hr:i≠r2:=fun e=>q2 d2 (by rw[e])
   obtain⟨w,e1,r⟩:=h.bo j r2 d2 q1
   have r3:=(Rep.wide (C:=fun b=>Hold b=none) (fun _ z=>z) d2 r).mono e
   refine⟨w,e1,Rep.anti ?_ d2 (Rep.keep (.upd (.inl (.inr ⟨i,hr,ha⟩)) mH) d2 r3)⟩
   rintro b (z | ⟨s,hs,z⟩)
   ·exact .inl (.inl z)
   ·rcases mem s b z with z | ⟨_,z⟩
    ·exact .inl (.inr ⟨s,hs,z⟩)
    ·exact .inr z
 ·rcases z2n z with⟨rfl,q,_⟩ | ⟨hj,q⟩
  ·cases q
   rw[z0V]
   exact⟨v,hv,t,nd⟩
  ·obtain⟨q1,_⟩:=z4z q
   obtain⟨w,e1,t',nd'⟩:=hm.ow j d2 q1
   rw[z1E hj]
   refine⟨w,e1,Tree.keep kt d2 t' fun b hb u q=>?_,nd'⟩
   have ne:b≠a:=fun z=>by subst z;exact hj (h.disj j i b hb ha)
   rw[z0v ne];exact q
 ·have ne:b≠a:=fun z=>n i (z ▸ ha)
  rw[z0v ne];exact e b u q
 ·rcases mem r b z with z | ⟨_,z⟩
  ·exact .inl ⟨r,z⟩
  ·exact .inr z
 ·by_cases hb:b=a
  ·subst hb;rw[z0o]at z;cases z
  ·rw[z0v hb]at z;exact e.free z
mutual
theorem Tree.flat:∀(d:D) {v:V} {A:List Addr},d.imm=true->Tree K H d v A->A=[]
 |.non,_,_,_,h=>h.2
 |.bl _,_,_,_,h=>h.2
 |.int _,_,_,_,h=>h.2
 |.str _,_,_,_,h=>h.2
 |.lst _,_,_,i,_=>by unfold D.imm at i;cases i
 |.dct _ _,_,_,i,_=>by unfold D.imm at i;cases i
 |.exc _,_,_,i,_=>by unfold D.imm at i;cases i
 |.obj _ _ _ _,_,_,i,_=>by unfold D.imm at i;cases i
 |.cel _ _,_,_,i,_=>by unfold D.imm at i;cases i
 |.tup ds,_,_,i,h=>by
  unfold D.imm at i
  unfold Tree at h
  obtain⟨a,xs,_,_,r⟩:=h
  exact Trees.flat ds i r
 |.scr _,_,_,_,h=>h.2
theorem Trees.flat:∀(ds:List D) {xs:List V} {A:List Addr},z1t ds=true->Trees K H ds xs A->A=[]
 |[],_,_,_,h=>h.2
 |d::ds,_,_,i,h=>by
  unfold z1t at i
  rw[aE]at i
  unfold Trees at h
  obtain⟨x,r,C,C',rfl,h1,h2,rfl⟩:=h
  rw[Trees.flat ds i.2 h2,aL]
  exact Tree.flat d i.1 h1
end
theorem Trees.append:∀{ds es:List D} {xs ys:List V} {A C:List Addr},Trees K H ds xs A->Trees K H es ys C->Trees K H (ds++es) (xs++ys) (A++C)
 |[],_,_,_,_,_,h,h'=>by obtain⟨rfl,rfl⟩:=h;exact h'
 |d::ds,es,_,ys,_,C,h,h'=>by
  unfold Trees at h
  obtain⟨y,r,A1,A2,rfl,h1,h2,rfl⟩:=h
  exact(show Trees K H (d::(ds++es)) (y::(r++ys)) (A1++A2++C) by unfold Trees;exact⟨y,_,A1,A2++C,rfl,h1,Trees.append h2 h',aT _ _ _⟩)
theorem Trees.length:∀{ds:List D} {xs:List V} {A:List Addr},Trees K H ds xs A->ds.length=xs.length
 |[],_,_,h=>by obtain⟨rfl,_⟩:=h;rfl
 |d::ds,_,_,h=>by
  unfold Trees at h
  obtain⟨x,r,_,_,rfl,_,h2,_⟩:=h
  simp[Trees.length h2]
theorem RS.top{i:Nat}{ds:List D}(h:RS K H0 B0 H σ δ R)(hi:δ[i]? = some (some (.ow (.lst ds)))):∃a xs A,σ[i]? = some (some (.ref a))∧H a=some (.lst xs)∧Trees K H ds xs A∧R i=a::A∧(a::A).Nodup:=by
 obtain⟨v,e,t,nd⟩:=h.ow i _ hi
 unfold Tree at t
 obtain⟨a,xs,A,rfl,ha,ts,e2⟩:=t
 rw[e2]at nd
 exact⟨a,xs,A,e,ha,ts,e2,nd⟩
theorem RS.put0{Hold:Hp}{i:Nat}{ds ds':List D}{a:Addr}{xs':List V}{A A':List Addr}(h:RS K H0 B0 Hold σ δ R)(e:Same Hold H)(hi:δ[i]? = some (some (.ow (.lst ds))))(hv:σ[i]? = some (some (.ref a)))(hR:R i=a::A)(nd:(a::A).Nodup)
  (t:Trees K H ds' xs' A') (nd':A'.Nodup) (sub:∀b∈A',b∈A∨Hold b=none):RS K H0 B0 (upd H a (.lst xs')) σ ((z0t i δ).set i (some (.ow (.lst ds')))) (y0W R i (a::A'))∧Stp R Hold (y0W R i (a::A')) (upd H a (.lst xs')):=by
 have ha:a∈R i:=by rw[hR];exact af
 obtain⟨oa,ea,ma⟩:=h.held i a ha
 have nA:∀b∈A',b≠a:=fun b hb z=>by
  rcases sub b hb with q | q
  ·exact(aw.mp nd).1 (z ▸ q)
  ·rw[z,ea]at q;cases q
 have mH:Mut (H a):=by rw[e a oa ea];exact ma
 refine h.rewrite e hi hv ha ?_ (aw.mpr ⟨fun z=>nA a z rfl,nd'⟩) fun b hb=>?_
 ·unfold Tree
  refine⟨a,xs',A',rfl,z0o,Trees.keep (Keep.upd (K:=K) (B:=fun x=>x=a) rfl mH).i ds' t fun b hb o q=>?_,rfl⟩
  rw[z0v (nA b hb)];exact q
 ·rw[hR]
  rcases ao.mp hb with z | z
  ·rw[z];exact .inl af
  ·exact(sub b z).imp (ae _) id
theorem Trees.set1{es:List D}:∀{ds:List D} {xs:List V} {A:List Addr} (k:Nat),Trees K H ds xs A->A.Nodup->ds[k]? = some (.lst es)->z1t es=true →
  ∃b ys,xs[k]? = some (.ref b)∧H b=some (.lst ys)∧b∈A∧Trees K H es ys []∧∀es' ys',Trees K H es' ys' []->Trees K (upd H b (.lst ys')) (ds.set k (.lst es')) xs A
 |[],_,_,_,_,_,e,_=>by simp at e
 |d::ds,_,_,0,h,nd,e,hi=>by
  simp at e
  subst e
  unfold Trees at h
  obtain⟨x,r,A1,A2,rfl,h1,h2,rfl⟩:=h
  unfold Tree at h1
  obtain⟨b,ys,C,rfl,hb,tb,rfl⟩:=h1
  have eC:=Trees.flat es hi tb
  subst eC
  have mH:Mut (H b):=by rw[hb];exact trivial
  have kt:∀o,KeepI K H (upd H b o):=fun o=>(Keep.upd (K:=K) (B:=fun x=>x=b) (o:=o) rfl mH).i
  refine⟨b,ys,rfl,hb,by simp,tb,fun es' ys' t'=>?_⟩
  rw[di]
  unfold Trees
  refine⟨.ref b,r,[b],A2,rfl,?_,Trees.keep (kt _) ds h2 fun c hc o q=>?_,rfl⟩
  ·unfold Tree
   exact⟨b,ys',[],rfl,z0o,Trees.keep (kt _) es' t' (fun c hc=>nomatch hc),rfl⟩
  ·have ne:c≠b:=fun z=>(aw.mp nd).1 (by rw[←z];exact hc)
   rw[z0v ne];exact q
 |d::ds,_,_,k+1,h,nd,e,hi=>by
  unfold Trees at h
  obtain⟨x,r,A1,A2,rfl,h1,h2,rfl⟩:=h
  have ndA:=bP.mp nd
  obtain⟨b,ys,e1,hb,hbA,tb,up⟩:=Trees.set1 k h2 ndA.2.1 (by simpa using e) hi
  refine⟨b,ys,by simpa using e1,hb,aQ _ hbA,tb,fun es' ys' t'=>?_⟩
  have mH:Mut (H b):=by rw[hb];exact trivial
  have kt:KeepI K H (upd H b (.lst ys')):=(Keep.upd (K:=K) (B:=fun x=>x=b) rfl mH).i
  rw[dl]
  unfold Trees
  refine⟨x,r,A1,A2,rfl,Tree.keep kt d h1 fun c hc o q=>?_,up es' ys' t',rfl⟩
  have ne:c≠b:=fun z=>ndA.2.2 c hc b hbA z
  rw[z0v ne];exact q
theorem RS.put1{Hold:Hp}{i k:Nat}{ds es:List D}(h:RS K H0 B0 Hold σ δ R)(e:Same Hold H)(hi:δ[i]? = some (some (.ow (.lst ds))))(hk:ds[k]? = some (.lst es))(hm:z1t es=true):
  ∃a xs b ys,σ[i]? = some (some (.ref a))∧Hold a=some (.lst xs)∧xs[k]? = some (.ref b)∧Hold b=some (.lst ys)∧ds.length=xs.length∧Trees K H es ys []∧∀es' ys',Trees K H es' ys' [] →
   RS K H0 B0 (upd H b (.lst ys')) σ ((z0t i δ).set i (some (.ow (.lst (ds.set k (.lst es')))))) (y0W R i (R i))∧Stp R Hold (y0W R i (R i)) (upd H b (.lst ys')):=by
 obtain⟨a,xs,A,ev,ha,ts,eR,nd⟩:=h.top hi
 obtain⟨b,ys,e1,hb,hbA,tb,_⟩:=Trees.set1 k ts (aw.mp nd).2 hk hm
 obtain⟨b',ys',e1',hb',_,tb',up⟩:=Trees.set1 k (ts.mono e) (aw.mp nd).2 hk hm
 rw[e1]at e1'
 cases e1'
 refine⟨a,xs,b,ys,ev,ha,e1,hb,ts.length,tb.mono e,fun es' zs t'=>?_⟩
 have hba:b∈R i:=by rw[eR];exact ae _ hbA
 have nba:a≠b:=fun z=>(aw.mp nd).1 (z ▸ hbA)
 refine h.rewrite e hi ev hba ?_ (by rw[eR];exact nd) fun c hc=>.inl hc
 rw[eR]
 unfold Tree
 exact⟨a,xs,A,rfl,by rw[z0v nba];exact e _ _ ha,up es' zs t',rfl⟩
end
instance{i j:Int}:Decidable (CDiv i j):=by unfold CDiv;infer_instance
instance{i j:Int}:Decidable (CPow i j):=by unfold CPow;infer_instance
instance{i j:Int}:Decidable (CMul i j):=by unfold CMul;infer_instance
def LM(K:aa)(r:V->List V->Hp->VK->Prop)(F:List D->List D->Option (List D)):Prop:=
 ∀(H:Hp) (a:Addr) (xs:List V) (ds args:List D) (vs:List V) (ds':List D) (Q:VK),H a=some (.lst xs)->ds.length=xs.length->Reps K H noB args vs->F ds args=some ds' →
  (∀(w:V) (xs':List V),(∀(H2:Hp) (A C:List Addr),Trees K H2 ds xs A->Trees K H2 args vs C->∃A',Trees K H2 ds' xs' A'∧((A++C).Nodup->A'.Nodup)∧∀b∈A',b∈A∨b∈C)->Q w (upd H a (.lst xs')))->r (.ref a) vs H Q
def y0U:List D->List D->Option (List D):=fun ds args=>match args with
 |[d]=>if ds.length<sizeLine then some (ds++[d])else none
 |_=>none
theorem z2g{K:aa}:LM K y9R y0U:=by
 intro H a xs ds args vs ds' Q ha hl hr q k
 unfold y0U at q
 split at q
 ·rename_i d
  split at q
  ·rename_i hz
   cases q
   obtain⟨y,rfl,ry⟩:=z4m hr
   refine⟨a,xs,y,rfl,rfl,ha,by rw[←hl];exact hz,k _ _ fun H2 A C t tc=>⟨A++C,t.append tc,fun z=>z,fun b hb=>au.mp hb⟩⟩
  ·cases q
 ·cases q
theorem Trees.erase{K:aa}{H:Hp}:∀{ds:List D} {xs:List V} {A:List Addr} (k:Nat),Trees K H ds xs A->∃A',Trees K H (ds.eraseIdx k) (xs.eraseIdx k) A'∧A'.Sublist A
 |[],_,_,_,h=>by
  obtain⟨rfl,rfl⟩:=h
  exact⟨[],⟨rfl,rfl⟩,List.Sublist.refl _⟩
 |d::ds,_,_,0,h=>by
  unfold Trees at h
  obtain⟨x,r,A1,A2,rfl,h1,h2,rfl⟩:=h
  exact⟨A2,h2,eJ _ _⟩
 |d::ds,_,_,k+1,h=>by
  unfold Trees at h
  obtain⟨x,r,A1,A2,rfl,h1,h2,rfl⟩:=h
  obtain⟨A',t,sb⟩:=Trees.erase k h2
  refine⟨A1++A',?_,List.Sublist.append_left sb _⟩
  rw[eN,eN]
  unfold Trees
  exact⟨x,_,A1,A',rfl,h1,t,rfl⟩
section
variable{X:Cx}{H0:Hp}{B0:Addr->Prop}{fr:Bool}{RX:XR}{e e2:Expr}{es:List Expr}{pos ap cp:Pos}{x name:Str}{px p2:Pos}{bid:String}{r:V->List V->Hp->VK->Prop}{F:List D->List D->Option (List D)}{fl:List DE}
def m0(i:Nat)(F:List D->List D->Option (List D))(fl:List DE):SS->Option Out:=fun δ=>(z0m fl (z0r δ)).bind fun args=>if z1t args=true then(match δ[i]? with
 |some (some (.ow (.lst ds)))=>(F ds args).map fun ds'=>.nx ((z0t i δ).set i (some (.ow (.lst ds'))))
 |_=>none)else none
theorem m0_core{i:Nat}{to:TE}(hL:LM X.K r F)(hto:to=y2I i)(D:Ends)(σ:St)(H:Hp)(h:tS X.K H0 B0 fr RX (m0 i F fl) D σ H):tDrop (tBM X.K "list" r to (tDs X.K (z0m fl))) D σ H:=by
 subst hto
 obtain⟨δ,R,o,rs,q,k⟩:=h
 unfold m0 at q
 cases e1:z0m fl (z0r δ)with
 |none=>rw[e1]at q;cases q
 |some args=>
  rw[e1]at q
  have q:(if z1t args=true then(match δ[i]? with | some (some (.ow (.lst ds)))=>(F ds args).map fun ds'=>Out.nx ((z0t i δ).set i (some (.ow (.lst ds')))) | _=>none)else none)=some o:=q
  split at q
  case isFalse=>cases q
  case isTrue hi=>
  split at q
  case h_2=>cases q
  case h_1 ds ei=>
  cases e2:F ds args with
  |none=>rw[e2]at q;cases q
  |some ds'=>
   rw[e2]at q
   cases q
   obtain⟨a,xs,A,ev,ha,ts,eR,nd⟩:=rs.top ei
   refine⟨.ref a,ev,.inl ⟨rfl,xs,SqL.of ha⟩,noB,z0r δ,args,.no,rs.all,e1,fun vs H2 s2 r2=>?_⟩
   refine hL H2 a xs ds args vs ds' _ (s2 _ _ ha) ts.length r2 e2 fun w xs' up=>?_
   obtain⟨A',t',n',sub⟩:=up H2 A [] (ts.mono s2) (r2.immTree args hi)
   have P:=rs.put0 s2 ei ev eR nd t' (n' (by rw[aL];exact(aw.mp nd).2)) fun b hb=>(sub b hb).imp id (fun z=>nomatch z)
   exact k σ _ _ P.1 P.2
theorem s_m0{i:Nat}(slot:Slot "list" name bid)(hty:typeOf (.builtin bid)=pure (.type "method_descriptor"))(hm:MtM X bid r)(hL:LM X.K r F)(hx:PE X (.Name x px) (y2I i))(ha:PAD X (e::es) fl)
  (hbase:fJ (.Name x px) name X.env (eval (.Name x px) X.env)=eval (.Name x px) X.env:=by rfl)
  (hfew:((fI cp (starEach (e::es) X.env)).all (fun x=>!x.1)&&(fQ cp (keywordEach [] X.env)).all (fun x=>x.1.isSome)&&decide ((e::es).length+([]:List fK).length+(if([]:List fK).isEmpty then 0 else 1)<30))=true:=by rfl)
  (hline:(ap.endLine==cp.line)=true:=by rfl) (hs:starEach (e::es) X.env=(false,eval e X.env)::starEach es X.env:=by rfl) (hplain:(fI cp (starEach es X.env)).any (·.1)=false:=by rfl)
  (hsw:swapsWith (.Call (.Attribute (.Name x px) name ap) (e::es) [] cp) none pos.line X.env=pure false:=by rfl):
  PS X (.Expr (.Call (.Attribute (.Name x px) name ap) (e::es) [] cp) pos) (tS X.K H0 B0 fr RX (m0 i F fl)):=
 PS.imp (z7K (y6x PySem.F.plainAttrs_list slot hty hm hx ha hbase hfew hline hs hplain) hsw) (m0_core hL rfl)
def m1(i:Nat)(fk:DE)(F:List D->List D->Option (List D))(fl:List DE):SS->Option Out:=fun δ=>(fk (z0r δ)).bind fun dk=>match dk with
 |.int k=>(z0m fl (z0r δ)).bind fun args=>if z1t args=true then(match δ[i]? with
  |some (some (.ow (.lst ds)))=>(ixN ds.length k).bind fun j=>match ds[j]? with
   |some (.lst es)=>if z1t es=true then(F es args).bind fun es'=>if z1t es'=true then some (.nx ((z0t i δ).set i (some (.ow (.lst (ds.set j (.lst es')))))))else none else none
   |_=>none
  |_=>none)else none
 |_=>none
theorem m1_core{i:Nat}{fk:DE}(hL:LM X.K r F)(D:Ends)(σ:St)(H:Hp)(h:tS X.K H0 B0 fr RX (m1 i fk F fl) D σ H):tDrop (tBM X.K "list" r (tOp (rIxL X.K) (y2I i) (tD X.K fk)) (tDs X.K (z0m fl))) D σ H:=by
 obtain⟨δ,R,o,rs,q,kk⟩:=h
 unfold m1 at q
 cases ek:fk (z0r δ)with
 |none=>rw[ek]at q;cases q
 |some dk=>
 rw[ek]at q
 cases dk with
 |int k=>
  cases e1:z0m fl (z0r δ)with
  |none=>
   have q:((z0m fl (z0r δ)).bind _)=some o:=q
   rw[e1]at q;cases q
  |some args=>
   have q:((z0m fl (z0r δ)).bind _)=some o:=q
   rw[e1]at q
   have q:(if z1t args=true then(match δ[i]? with
    |some (some (.ow (.lst ds)))=>(ixN ds.length k).bind fun j=>match ds[j]? with
     |some (.lst es)=>if z1t es=true then(F es args).bind fun es'=>if z1t es'=true then some (Out.nx ((z0t i δ).set i (some (.ow (.lst (ds.set j (.lst es')))))))else none else none
     |_=>none
    |_=>none)else none)=some o:=q
   split at q
   case isFalse=>cases q
   case isTrue hi=>
   split at q
   case h_2=>cases q
   case h_1 ds ei=>
   cases ej:ixN ds.length k with
   |none=>rw[ej]at q;cases q
   |some j=>
    rw[ej]at q
    have q:(match ds[j]? with | some (.lst es)=>if z1t es=true then(F es args).bind fun es'=>if z1t es'=true then some (Out.nx ((z0t i δ).set i (some (.ow (.lst (ds.set j (.lst es')))))))else none else none | _=>none)=some o:=q
    split at q
    case h_2=>cases q
    case h_1 es ed=>
    split at q
    case isFalse=>cases q
    case isTrue hes=>
    cases eF:F es args with
    |none=>rw[eF]at q;cases q
    |some es'=>
     rw[eF]at q
     have q:(if z1t es'=true then some (Out.nx ((z0t i δ).set i (some (.ow (.lst (ds.set j (.lst es')))))))else none)=some o:=q
     split at q
     case isFalse=>cases q
     case isTrue hes'=>
     cases q
     obtain⟨a,xs,b,ys,ev,ha,hxb,hb,hln,_,_⟩:=rs.put1 (.refl H) ei ed hes
     refine⟨.ref a,ev,noB,z0r δ,.int k,.no,rs.all,ek,fun v1 H1 s1 r1=>?_⟩
     cases (show v1=V.int k from r1)
     have hat:atI xs k=some (.ref b):=by
      unfold atI
      rw[←hln,ej]
      exact hxb
     refine⟨a,xs,k,.ref b,rfl,rfl,SqL.of (s1 _ _ ha),hat,.inl ⟨rfl,ys,SqL.of (s1 _ _ hb)⟩,noB,z0r δ,args,.no,rs.all.mono s1,e1,fun vs H2 s2 r2=>?_⟩
     obtain⟨a',xs',b',ys',ev',ha',hxb',hb',_,tb,up⟩:=rs.put1 (s1.trans s2) ei ed hes
     rw[ev]at ev';cases ev'
     rw[ha]at ha';cases ha'
     rw[hxb]at hxb';cases hxb'
     rw[hb]at hb';cases hb'
     refine hL H2 b ys es args vs es' _ (s2 _ _ (s1 _ _ hb)) tb.length r2 eF fun w zs up2=>?_
     obtain⟨A',t',_,sub⟩:=up2 H2 [] [] tb (r2.immTree args hi)
     have eA:A'=[]:=Trees.flat es' hes' t'
     subst eA
     have P:=up es' zs t'
     exact kk σ _ _ P.1 P.2
 |_=>cases q
theorem s_m1{i:Nat}{fk:DE}{ke:Expr}(slot:Slot "list" name bid)(hty:typeOf (.builtin bid)=pure (.type "method_descriptor"))(hm:MtM X bid r)(hL:LM X.K r F)(hx:PE X (.Name x px) (y2I i))(hk:PD X ke fk)(ha:PAD X (e::es) fl)(hpi:z8e ke:=by intro _ _;rfl)
  (hbase:fJ (.Subscript (.Name x px) ke p2) name X.env (eval (.Subscript (.Name x px) ke p2) X.env)=eval (.Subscript (.Name x px) ke p2) X.env:=by rfl)
  (hfew:((fI cp (starEach (e::es) X.env)).all (fun x=>!x.1)&&(fQ cp (keywordEach [] X.env)).all (fun x=>x.1.isSome)&&decide ((e::es).length+([]:List fK).length+(if([]:List fK).isEmpty then 0 else 1)<30))=true:=by rfl)
  (hline:(ap.endLine==cp.line)=true:=by rfl) (hs:starEach (e::es) X.env=(false,eval e X.env)::starEach es X.env:=by rfl) (hplain:(fI cp (starEach es X.env)).any (·.1)=false:=by rfl)
  (hsw:swapsWith (.Call (.Attribute (.Subscript (.Name x px) ke p2) name ap) (e::es) [] cp) none pos.line X.env=pure false:=by rfl):
  PS X (.Expr (.Call (.Attribute (.Subscript (.Name x px) ke p2) name ap) (e::es) [] cp) pos) (tS X.K H0 B0 fr RX (m1 i fk F fl)):=
 PS.imp (z7K (y6x PySem.F.plainAttrs_list slot hty hm (x2I ix_list hx hk hpi) ha hbase hfew hline hs hplain) hsw) (m1_core hL)
def st0(i:Nat)(fk fv:DE):SS->Option Out:=fun δ=>(fv (z0r δ)).bind fun d=>if d.imm=true then(fk (z0r δ)).bind fun dk=>(match dk,δ[i]? with
 |.int k,some (some (.ow (.lst ds)))=>(ixN ds.length k).map fun j=>.nx ((z0t i δ).set i (some (.ow (.lst (ds.set j d)))))
 |_,_=>none)else none
def st1(i:Nat)(fk fj fv:DE):SS->Option Out:=fun δ=>(fv (z0r δ)).bind fun d=>if d.imm=true then(fk (z0r δ)).bind fun dk=>(fj (z0r δ)).bind fun dj=>(match dk,dj,δ[i]? with
 |.int k,.int j,some (some (.ow (.lst ds)))=>(ixN ds.length k).bind fun k'=>(match ds[k']? with
  |some (.lst es)=>if z1t es=true then(ixN es.length j).map fun j'=>.nx ((z0t i δ).set i (some (.ow (.lst (ds.set k' (.lst (es.set j' d)))))))else none
  |_=>none)
 |_,_,_=>none)else none
end
theorem Trees.setI{K:aa}{H:Hp}{d:D}{y:V}(ty:Tree K H d y []):∀{ds:List D} {xs:List V} {A:List Addr} (j:Nat),Trees K H ds xs A->∃A',Trees K H (ds.set j d) (xs.set j y) A'∧A'.Sublist A
 |[],_,_,_,h=>by
  obtain⟨rfl,rfl⟩:=h
  exact⟨[],⟨rfl,rfl⟩,List.Sublist.refl _⟩
 |e::ds,_,_,0,h=>by
  unfold Trees at h
  obtain⟨x,r,A1,A2,rfl,h1,h2,rfl⟩:=h
  refine⟨A2,?_,eJ _ _⟩
  rw[di,di]
  unfold Trees
  exact⟨y,r,[],A2,rfl,ty,h2,rfl⟩
 |e::ds,_,_,k+1,h=>by
  unfold Trees at h
  obtain⟨x,r,A1,A2,rfl,h1,h2,rfl⟩:=h
  obtain⟨A',t,sb⟩:=Trees.setI ty k h2
  refine⟨A1++A',?_,List.Sublist.append_left sb _⟩
  rw[dl,dl]
  unfold Trees
  exact⟨x,_,A1,A',rfl,h1,t,rfl⟩
section
variable{X:Cx}{H0:Hp}{B0:Addr->Prop}{fr:Bool}{RX:XR}{e ke je:Expr}{pos:Pos}{x:Str}{px p2 p3:Pos}
theorem s_st0{i:Nat}{fk fv:DE}(hx:PE X (.Name x px) (y2I i))(hk:PD X ke fk)(hv:PD X e fv)
  (ha:∀v,fP (.Subscript (.Name x px) ke p2) X.env v=(do
   let ov ←holding [v] (eval (.Name x px) X.env)
   let iv ←holding [v,ov] (eval ke X.env)
   standAt p2
   holding [v,ov,iv] (setItem ov iv v)
   release [v,ov,iv] []):=by intro _;rfl)
  (hs:swapsWithSole [.Subscript (.Name x px) ke p2] e pos.line X.env=pure false:=by rfl) (hw:swappedStores [.Subscript (.Name x px) ke p2] e X.env=pure none:=by rfl)
  (h1:(fG [.Subscript (.Name x px) ke p2] X.env).map (·.2)=[fP (.Subscript (.Name x px) ke p2) X.env]:=by rfl):
  PS X (.Assign [.Subscript (.Name x px) ke p2] e pos) (tS X.K H0 B0 fr RX (st0 i fk fv)):=
 PS.imp (x5l hv (x4b hx hk y4V ha) hs hw h1) fun D σ H ⟨δ,R,o,rs,q,kk⟩=>by
  unfold st0 at q
  cases e1:fv (z0r δ)with
  |none=>rw[e1]at q;cases q
  |some d=>
  rw[e1]at q
  have q:(if d.imm=true then(fk (z0r δ)).bind fun dk=>(match dk,δ[i]? with
   |.int k,some (some (.ow (.lst ds)))=>(ixN ds.length k).map fun j=>Out.nx ((z0t i δ).set i (some (.ow (.lst (ds.set j d)))))
   |_,_=>none)else none)=some o:=q
  split at q
  case isFalse=>cases q
  case isTrue hi=>
  cases e2:fk (z0r δ)with
  |none=>rw[e2]at q;cases q
  |some dk=>
  rw[e2]at q
  simp only[aj]at q
  split at q
  case h_2=>cases q
  case h_1=>
  rename_i k ds ei
  cases ej:ixN ds.length k with
  |none=>rw[ej]at q;cases q
  |some j=>
  rw[ej]at q
  cases q
  obtain⟨a,xs,A,ev,ha',ts,eR,nd⟩:=rs.top ei
  refine⟨noB,z0r δ,d,.no,rs.all,e1,fun v H1 s1 r1=>⟨.ref a,ev,noB,z0r δ,.int k,.no,rs.all.mono s1,e2,fun v2 H2 s2 r2=>?_⟩⟩
  cases (show v2=V.int k from r2)
  refine⟨a,xs,k,j,rfl,rfl,s2 _ _ (s1 _ _ ha'),by rw[←ts.length];exact ej,?_⟩
  obtain⟨A',t',sb⟩:=Trees.setI ((r1.immTree d hi).mono s2) j (ts.mono (s1.trans s2))
  have P:=rs.put0 (s1.trans s2) ei ev eR nd t' ((aw.mp nd).2.sublist sb) fun b hb=>.inl (sb.subset hb)
  exact kk σ _ _ P.1 P.2
theorem s_st1{i:Nat}{fk fj fv:DE}(hx:PE X (.Name x px) (y2I i))(hk:PD X ke fk)(hj:PD X je fj)(hv:PD X e fv)(hpi:z8e ke:=by intro _ _;rfl)
  (ha:∀v,fP (.Subscript (.Subscript (.Name x px) ke p3) je p2) X.env v=(do
   let ov ←holding [v] (eval (.Subscript (.Name x px) ke p3) X.env)
   let iv ←holding [v,ov] (eval je X.env)
   standAt p2
   holding [v,ov,iv] (setItem ov iv v)
   release [v,ov,iv] []):=by intro _;rfl)
  (hs:swapsWithSole [.Subscript (.Subscript (.Name x px) ke p3) je p2] e pos.line X.env=pure false:=by rfl) (hw:swappedStores [.Subscript (.Subscript (.Name x px) ke p3) je p2] e X.env=pure none:=by rfl)
  (h1:(fG [.Subscript (.Subscript (.Name x px) ke p3) je p2] X.env).map (·.2)=[fP (.Subscript (.Subscript (.Name x px) ke p3) je p2) X.env]:=by rfl):
  PS X (.Assign [.Subscript (.Subscript (.Name x px) ke p3) je p2] e pos) (tS X.K H0 B0 fr RX (st1 i fk fj fv)):=
 PS.imp (x5l hv (x4b (x2I ix_list hx hk hpi) hj y4V ha) hs hw h1) fun D σ H ⟨δ,R,o,rs,q,kk⟩=>by
  unfold st1 at q
  cases e1:fv (z0r δ)with
  |none=>rw[e1]at q;cases q
  |some d=>
  rw[e1]at q
  have q:(if d.imm=true then(fk (z0r δ)).bind fun dk=>(fj (z0r δ)).bind fun dj=>(match dk,dj,δ[i]? with
   |.int k,.int j,some (some (.ow (.lst ds)))=>(ixN ds.length k).bind fun k'=>(match ds[k']? with
    |some (.lst es)=>if z1t es=true then(ixN es.length j).map fun j'=>Out.nx ((z0t i δ).set i (some (.ow (.lst (ds.set k' (.lst (es.set j' d)))))))else none
    |_=>none)
   |_,_,_=>none)else none)=some o:=q
  split at q
  case isFalse=>cases q
  case isTrue hi=>
  cases e2:fk (z0r δ)with
  |none=>rw[e2]at q;cases q
  |some dk=>
  cases e3:fj (z0r δ)with
  |none=>rw[e2,e3]at q;cases q
  |some dj=>
  rw[e2,e3]at q
  simp only[aj]at q
  split at q
  case h_2=>cases q
  case h_1=>
  rename_i k j ds ei
  cases ek:ixN ds.length k with
  |none=>rw[ek]at q;cases q
  |some k'=>
  rw[ek]at q
  have q:(match ds[k']? with
    |some (.lst es)=>if z1t es=true then(ixN es.length j).map fun j'=>Out.nx ((z0t i δ).set i (some (.ow (.lst (ds.set k' (.lst (es.set j' d)))))))else none
    |_=>none)=some o:=q
  split at q
  case h_2=>cases q
  case h_1 es ed=>
  split at q
  case isFalse=>cases q
  case isTrue hes=>
  cases ej:ixN es.length j with
  |none=>rw[ej]at q;cases q
  |some j'=>
  rw[ej]at q
  cases q
  obtain⟨a,xs,b,ys,ev,ha',hxb,hb,hln,_,_⟩:=rs.put1 (.refl H) ei ed hes
  have hat:atI xs k=some (.ref b):=by
   unfold atI
   rw[←hln,ek]
   exact hxb
  refine⟨noB,z0r δ,d,.no,rs.all,e1,fun v H1 s1 r1=>⟨.ref a,ev,noB,z0r δ,.int k,.no,rs.all.mono s1,e2,fun v2 H2 s2 r2=>?_⟩⟩
  cases (show v2=V.int k from r2)
  refine⟨a,xs,k,.ref b,rfl,rfl,SqL.of (s2 _ _ (s1 _ _ ha')),hat,noB,z0r δ,.int j,.no,(rs.all.mono s1).mono s2,e3,fun v3 H3 s3 r3=>?_⟩
  cases (show v3=V.int j from r3)
  obtain⟨a',xs',b',ys',ev',ha'',hxb',hb',_,tb,up⟩:=rs.put1 ((s1.trans s2).trans s3) ei ed hes
  rw[ev]at ev';cases ev'
  rw[ha']at ha'';cases ha''
  rw[hxb]at hxb';cases hxb'
  rw[hb]at hb';cases hb'
  refine⟨b,ys,j,j',rfl,rfl,s3 _ _ (s2 _ _ (s1 _ _ hb)),by rw[←tb.length];exact ej,?_⟩
  obtain⟨A',t',sb⟩:=Trees.setI (((r1.immTree d hi).mono s2).mono s3) j' tb
  have eA:A'=[]:=List.sublist_nil.mp sb
  subst eA
  have P:=up _ _ t'
  exact kk σ _ _ P.1 P.2
end
section
variable{X:Cx}{e a:Expr}{lo hi:Option Expr}{p2 pos:Pos}
def tO(K:aa)(f:DS->Option (Option Int)):TO:=fun σ H Q=>∃B δ o,InB B H∧RepS K H B σ δ∧f δ=some o∧∀H',Same H H'->Q o H'
abbrev POD(X:Cx)(e:Option Expr)(f:DS->Option (Option Int)):Prop:=PO X e (tO X.K f)
theorem PO.imp{eo:Option Expr}{t t':TO}(h:PO X eo t)(w:∀σ H Q,t' σ H Q->t σ H Q):PO X eo t':=fun pins s σ H Q I q=>h pins s σ H Q I (w σ H Q q)
def z2Y:DS->Option (Option Int):=fun _=>some none
def z6n(f:DE):DS->Option (Option Int):=fun δ=>match f δ with
 |some (.int i)=>some (some i)
 |_=>none
theorem z2s:POD X none z2Y:=po_none.imp fun σ H Q ⟨B,δ,o,hB,S,q,k⟩=>by
 cases q
 exact k H (.refl H)
theorem z1L{f:DE}(h:PD X e f):POD X (some e) (z6n f):=(y8q h).imp fun σ H Q ⟨B,δ,o,hB,S,q,k⟩=>by
 unfold z6n at q
 split at q
 ·rename_i i e1
  cases q
  exact⟨B,δ,.int i,hB,S,e1,fun v H' s r=>⟨i,r,k H' s⟩⟩
 ·cases q
def z5k(ds:List D)(lo hi:Option Int):List D:=(ds.drop (HT.sIx ds.length 0 lo)).take (HT.sIx ds.length ds.length hi - HT.sIx ds.length 0 lo)
def y7u(f:DE)(fl fh:DS->Option (Option Int)):DS->Option (List D):=fun δ=>match f δ with
 |some (.lst ds)=>(fl δ).bind fun lo=>(fh δ).map fun hi=>z5k ds lo hi
 |some (.scr ns)=>(fl δ).bind fun lo=>(fh δ).map fun hi=>z5k (ns.map .int) lo hi
 |_=>none
theorem z2L{f:DE}{fl fh:DS->Option (Option Int)}(he:PD X e f)(hl:POD X lo fl)(hh:POD X hi fh):PF X (.Subscript e (.Slice lo hi none p2) pos) (y7u f fl fh):=(y5f sl_list he hl hh).imp fun σ H Q ⟨B,δ,ds',hB,S,q,k⟩=>by
 unfold y7u at q
 have core:∀(d:D) (ds:List D),f δ=some d->((fl δ).bind fun lo=>(fh δ).map fun hi=>z5k ds lo hi)=some ds'->(∀v H1,Rep X.K H1 B d v->∃a xs,v = .ref a∧(∀H2,Same H1 H2->SqL X.K H2 a xs)∧Reps X.K H1 B ds xs) →
   tSl (rSlL X.K) (tD X.K f) (tO X.K fl) (tO X.K fh) σ H Q:=by
  intro d ds e1 q get
  cases e2:fl δ with
  |none=>rw[e2]at q;cases q
  |some l=>
  cases e3:fh δ with
  |none=>rw[e2,e3]at q;cases q
  |some u=>
  rw[e2,e3]at q
  cases q
  refine⟨B,δ,_,hB,S,e1,fun v H1 s1 r1=>⟨B,δ,l,hB.mono s1,S.mono s1,e2,fun H2 s2=>⟨B,δ,u,(hB.mono s1).mono s2,(S.mono s1).mono s2,e3,fun H3 s3=>?_⟩⟩⟩
  obtain⟨a,xs,rfl,hq,rs⟩:=get v H1 r1
  refine⟨a,xs,rfl,hq H3 (s2.trans s3),fun p hp=>?_⟩
  have sa:=z0n (o:=.lst (y6Z xs l u)) hp
  refine k p _ _ (((s1.trans s2).trans s3).trans sa) ((s1.trans (s2.trans s3)).free hp) z0o ?_
  unfold z5k y6Z
  rw[rs.length]
  exact((rs.drop _).take _).mono ((s2.trans s3).trans sa)
 split at q
 case h_3=>cases q
 case h_1 ds e1=>
  refine core _ ds e1 q fun v H1 r1=>?_
  unfold Rep at r1
  obtain⟨a,xs,rfl,_,hq,rs⟩:=r1
  exact⟨a,xs,rfl,fun H2 s2=>SqL.of (s2 _ _ hq),rs⟩
 case h_2 ns e1=>
  refine core _ (ns.map .int) e1 q fun v H1 r1=>?_
  unfold Rep at r1
  obtain⟨a,rfl,hq⟩:=r1
  exact⟨a,_,rfl,fun H2 s2=>(s2.sf hq).sq,z2F ns⟩
end
section
variable{X:Cx}{pos:Pos}{x:Str}{iter elt:Expr}{N':List Str}{sc:fO}{ifs:List Expr}{n:Nat}{px:Pos}{fi:DS->Option (List D)}{fc:DS->Option Bool}{fe:DE}
theorem y4X{σ:St}{H:Hp}{Q:VK}(hσ:σ.length=n)(hq:tN X.K (mkL (z0K fi fc fe)) σ H Q):y7T (tI X.K fi) (z2Z n) (tT X.K fc) (tN X.K fe) 1 σ H Q:=by
 obtain⟨δ,d0,Sδ,q,k⟩:=hq
 unfold mkL at q
 cases eds:z0K fi fc fe δ with
 |none=>rw[eds]at q;cases q
 |some ds=>
 rw[eds]at q
 cases q
 unfold z0K at eds
 cases e1:fi δ with
 |none=>rw[e1]at eds;cases eds
 |some xs=>
 rw[e1]at eds
 have q1:(if xs.length≤sizeLine then z1d (fun x=>(fc (δ++[some x])).bind fun k=>if k=true then(fe (δ++[some x])).map some else some none) xs else none)=some ds:=eds
 split at q1
 case isFalse=>cases q1
 case isTrue hsz=>
 refine⟨noB,δ,xs,.no,Sδ,e1,fun J H1 s1 itw=>fun Da hD=>?_⟩
 have hD0:H Da=none:=s1.free hD
 have it:=itw (fun a=>H1 a=none) fun a ha=>ha
 refine⟨fun i m σ' H'=>m=xs.length - i∧i≤xs.length∧(∃w,σ'=σ++[w])∧Same H1 H'∧∃ys dn rs A,H' Da=some (.lst ys)∧Trees X.K H' dn ys A∧(Da::A).Nodup∧(∀a∈A,H1 a=none)∧ds=dn++rs∧dn.length≤i ∧
  z1d (fun x=>(fc (δ++[some x])).bind fun k=>if k=true then(fe (δ++[some x])).map some else some none) (xs.drop i)=some rs,
  ⟨xs.length,by simp,bu _,⟨none,rfl⟩,z0n hD,[],[],ds,[],z0o,.nil,aw.mpr ⟨(fun z=>nomatch z),be⟩,(fun a z=>nomatch z),rfl,am _,q1⟩,?_⟩
 rintro i m σ' H' ⟨rfl,hi',⟨w,rfl⟩,sm,ys,dn,rs,A,hys,tys,nd,fr,hds,hln,hrs⟩
 have kp:Keep X.K (fun a=>noB a∨H1 a=none) H1 H':=.same sm
 by_cases hlt:i<xs.length
 ·refine .inr ⟨it.go i H' kp hlt,fun σ'' H''=>(i+1≤xs.length∧(∃w,σ''=σ++[w])∧Same H1 H''∧∃ys dn rs A,H'' Da=some (.lst ys)∧Trees X.K H'' dn ys A∧(Da::A).Nodup∧(∀a∈A,H1 a=none)∧ds=dn++rs∧dn.length≤i+1 ∧
   z1d (fun x=>(fc (δ++[some x])).bind fun k=>if k=true then(fe (δ++[some x])).map some else some none) (xs.drop (i+1))=some rs),fun σ'' H'' h=>⟨xs.length - (i+1),by omega,rfl,h⟩,fun xv H2 hy=>?_⟩
  obtain⟨s2,d,hd,rd⟩:=it.yld i H' xv H2 kp hy
  have hdi:=hd hlt
  have hx:xs.drop i=d::xs.drop (i+1):=by
   obtain⟨hl,e⟩:=aO.mp hdi
   rw[bj hl,e]
  rw[hx]at hrs
  obtain⟨o,rs',e2,e3,e4⟩:=z5K hrs
  show tT X.K fc ((σ++[w]).set n (some xv)) H2 _
  rw[←hσ,y0w]
  have S2:RepS X.K H2 noB (σ++[some xv]) (δ++[some d]):=(((Sδ.mono s1).mono sm).mono s2).snoc (rd.anti fun a z=>z.elim)
  have hl2:ys.length<sizeLine:=by
   have:=tys.length
   omega
  cases ec:fc (δ++[some d])with
  |none=>rw[ec]at e2;cases e2
  |some kk=>
   rw[ec]at e2
   have e2':(if kk=true then(fe (δ++[some d])).map some else some none)=some o:=e2
   refine⟨noB,δ++[some d],kk,.no,S2,ec,fun H3 s3=>?_⟩
   cases kk with
   |false=>
    rw[if_neg ar]at e2'
    rw[if_neg ar]
    cases e2'
    exact⟨hlt,⟨_,rfl⟩,(sm.trans s2).trans s3,ys,dn,rs',A,s3 _ _ (s2 _ _ hys),(tys.mono s2).mono s3,nd,fr,by rw[hds,e4];rfl,dF hln,e3⟩
   |true=>
    rw[if_pos rfl]at e2'
    rw[if_pos rfl]
    cases ey:fe (δ++[some d])with
    |none=>rw[ey]at e2';cases e2'
    |some y=>
     rw[ey]at e2'
     cases e2'
     refine⟨δ++[some d],y,S2.mono s3,ey,fun yv H5 A5 s5 t5 nd5 fr5=>⟨ys,s5 _ _ (s3 _ _ (s2 _ _ hys)),hl2,?_⟩⟩
     have s15:Same H' H5:=(s2.trans s3).trans s5
     have hu:H5 Da=some (.lst ys):=s15 _ _ hys
     have mu:Mut (H5 Da):=by rw[hu];exact trivial
     have hDa3:H3 Da=some (.lst ys):=s3 _ _ (s2 _ _ hys)
     have nDa:Da∉A++A5:=fun z=>by
      rcases au.mp z with z | z
      ·exact(aw.mp nd).1 z
      ·have:=fr5 Da z
       rw[hDa3]at this;cases this
     refine⟨hlt,⟨_,rfl⟩,fun b u hb=>?_,ys++[yv],dn++[y],rs',A++A5,z0o,?_,aw.mpr ⟨nDa,?_⟩,fun a ha=>?_,by rw[hds,e4,aT];rfl,by rw[aD];simp;omega,e3⟩
     ·rw[z0v (z1s hb hD)]
      exact s15 _ _ (sm _ _ hb)
     ·refine Trees.keep (Keep.upd (K:=X.K) (B:=fun x=>x=Da) rfl mu).i _ ((tys.mono s15).snoc t5) fun b hb u q=>?_
      have ne:b≠Da:=fun z=>nDa (z ▸ hb)
      rw[z0v ne];exact q
     ·refine bP.mpr ⟨(aw.mp nd).2,nd5,fun b hb c hc z=>?_⟩
      subst z
      obtain⟨u,q,_⟩:=Trees.held _ tys b hb
      have:=fr5 b hc
      rw[(s2.trans s3) _ _ q]at this;cases this
     ·rcases au.mp ha with z | z
      ·exact fr a z
      ·exact sm.free ((s2.trans s3).free (fr5 a z))
 ·have e:i=xs.length:=by omega
  subst e
  refine .inl ⟨it.stop _ H' kp (am _),?_⟩
  rw[cD]at hrs
  cases hrs
  rw[aL]at hds
  subst hds
  refine k (.ref Da) H' (Da::A) (s1.trans sm) ?_ nd fun a ha=>?_
  ·unfold Tree
   exact⟨Da,ys,A,rfl,hys,tys,rfl⟩
  ·rcases ao.mp ha with z | z
   ·rw[z];exact hD0
   ·exact s1.free (fr a z)
theorem z5P(hc:X.calm=true)(S:CompScope X.N X.env.scope.names N' 1 sc)(hn:n=X.N.length)(hi:PID X (.Name x px) iter fi)
  (hg:∀s H fp pins E,PG (z0E X N' sc s H fp pins E) (.Name x px) (z2Z n)) (ht:∀s H fp pins E,y9V (z0E X N' sc s H fp pins E) ifs (tT X.K fc)) (he:∀s H fp pins E,PE (z0E X N' sc s H fp pins E) elt (tN X.K fe))
  (hs:∀x,foldedSetIterable iter X.env x=pure x:=by intro _;rfl):PN X (.ListComp elt [⟨.Name x px,iter,ifs,0⟩] sc pos) (mkL (z0K fi fc fe)):=by
 intro pins s σ H Q I hq
 exact y3T hc S hi ⟨hg,ht,he⟩ hs pins s σ H Q I (y4X (by rw[hn,I.len]) hq)
theorem pas_cN{i:Nat}{y:Str}{py spos:Pos}(hN:X.N.Nodup)(hy:X.N[i]? = some y)(hyl:X.env.scope.names.lookup y=some .local)(hc:X.calm=true)(S:CompScope X.N X.env.scope.names N' 1 sc)(hn:n=X.N.length)(hi:PID X (.Name x px) iter fi)
  (hg:∀s H fp pins E,PG (z0E X N' sc s H fp pins E) (.Name x px) (z2Z n)) (ht:∀s H fp pins E,y9V (z0E X N' sc s H fp pins E) ifs (tT X.K fc)) (he:∀s H fp pins E,PE (z0E X N' sc s H fp pins E) elt (tN X.K fe))
  (hsw:swapsWith (.ListComp elt [⟨.Name x px,iter,ifs,0⟩] sc pos) (some (.Name y py)) spos.line X.env=pure true:=by rfl) (hs:∀x,foldedSetIterable iter X.env x=pure x:=by intro _;rfl):
  PS X (.Assign [.Name y py] (.ListComp elt [⟨.Name x px,iter,ifs,0⟩] sc pos) spos) (tAsg (tN X.K (mkL (z0K fi fc fe))) (z2Z i)):=by
 intro pins s σ H D I hq
 exact x0O hc S hN hy hyl hi ⟨hg,ht,he⟩ hsw hs pins s σ H D I (y4X (by rw[hn,I.len]) hq)
end
section
variable{X:Cx}{a b:Expr}{pos:Pos}{f g:DE}
def z8o:D->D->Option D:=iop fun i j=>some (.int (i+j))
def y4g:D->D->Option D:=iop fun i j=>some (.int (i - j))
def y9Q:D->D->Option D:=iop fun i j=>if CMul i j then some (.int (i*j))else none
def z6Z:D->D->Option D:=iop fun i j=>if CDiv i j then some (.int (i / j))else none
def z2J:D->D->Option D:=iop fun i j=>if 0<j then some (.int (i % j))else none
def x1W:D->D->Option D:=iop fun i j=>if CPow i j then some (.int (i ^ j.toNat))else none
def ltI:D->D->Option D:=iop fun i j=>some (.bl (decide (i<j)))
def leI:D->D->Option D:=iop fun i j=>some (.bl (decide (i≤j)))
def gtI:D->D->Option D:=iop fun i j=>some (.bl (decide (j<i)))
theorem z2q(ha:PD X a f)(hb:PD X b g):PD X (.BinOp a .Add b pos) (d2 z8o f g):=y1u op_add x0E ha hb
theorem z4K(ha:PD X a f)(hb:PD X b g):PD X (.BinOp a .Sub b pos) (d2 y4g f g):=y1u op_sub x0E ha hb
theorem y5v(ha:PD X a f)(hb:PD X b g):PD X (.BinOp a .Mult b pos) (d2 y9Q f g):=y1u op_mul z8P ha hb
theorem z4p(ha:PD X a f)(hb:PD X b g):PD X (.BinOp a .FloorDiv b pos) (d2 z6Z f g):=y1u op_fdiv z8P ha hb
theorem z1v(ha:PD X a f)(hb:PD X b g):PD X (.BinOp a .Mod b pos) (d2 z2J f g):=y1u op_mod z8P ha hb
theorem y9r(ha:PD X a f)(hb:PD X b g):PD X (.BinOp a .Pow b pos) (d2 x1W f g):=y1u op_pow z8P ha hb
theorem pd_lt(ha:PD X a f)(hb:PD X b g):PD X (.Compare a [.Lt] [b] pos) (d2 ltI f g):=y2F op_lt z4w ha hb (z6y _)
theorem pd_gt(ha:PD X a f)(hb:PD X b g):PD X (.Compare a [.Gt] [b] pos) (d2 gtI f g):=y2F op_gt z4w ha hb (z6y _)
theorem x3z(hu:X.A.units+64<cLine)(ha:PD X a f)(hb:PD X b g):PD X (.Compare a [.Eq] [b] pos) (d2 eqD f g):=y2F (x3Y hu) o2_eq ha hb (z6y _)
theorem pd_ne(hu:X.A.units+64<cLine)(ha:PD X a f)(hb:PD X b g):PD X (.Compare a [.NotEq] [b] pos) (d2 neD f g):=y2F (x4Z hu) o2_ne ha hb (z6y _)
theorem y6h(hu:X.A.units+64<cLine)(ha:PD X a f)(hb:PD X b g)(hm:fH .In b=false:=by rfl):PD X (.Compare a [.In] [b] pos) (d2 inD f g):=y2F (x4s hu) o2_in ha hb hm
theorem pt_lt(ha:PD X a f)(hb:PD X b g):PTD X (.Compare a [.Lt] [b] pos) (z0H (d2 ltI f g)):=z5V op_lt z4w ha hb (z6y _)
theorem y3Z(ha:PD X a f)(hb:PD X b g):PTD X (.Compare a [.Gt] [b] pos) (z0H (d2 gtI f g)):=z5V op_gt z4w ha hb (z6y _)
theorem z6K(hu:X.A.units+64<cLine)(ha:PD X a f)(hb:PD X b g):PTD X (.Compare a [.Eq] [b] pos) (z0H (d2 eqD f g)):=z5V (x3Y hu) o2_eq ha hb (z6y _)
theorem y8U(hu:X.A.units+64<cLine)(ha:PD X a f)(hb:PD X b g):PTD X (.Compare a [.NotEq] [b] pos) (z0H (d2 neD f g)):=z5V (x4Z hu) o2_ne ha hb (z6y _)
theorem pt_in(hu:X.A.units+64<cLine)(ha:PD X a f)(hb:PD X b g)(hm:fH .In b=false:=by rfl):PTD X (.Compare a [.In] [b] pos) (z0H (d2 inD f g)):=z5V (x4s hu) o2_in ha hb hm
theorem x4p(hu:X.A.units+64<cLine)(ha:PD X a f)(hb:PD X b g)(hm:fH .NotIn b=false:=by rfl):PTD X (.Compare a [.NotIn] [b] pos) (z0H (d2 x1T f g)):=z5V (op_ninD hu) o2_nin ha hb hm
end
def y2T(H:Hp)(A:List Addr):Hp:=fun a=>if a∈A then none else H a
theorem y4I{H:Hp}{A:List Addr}{a:Addr}(h:a∈A):y2T H A a=none:=if_pos h
theorem z8l{H:Hp}{A:List Addr}{a:Addr}(h:a∉A):y2T H A a=H a:=if_neg h
theorem y6H{H:Hp}{A:List Addr}:Same (y2T H A) H:=fun a o e=>by
 by_cases h:a∈A
 ·rw[y4I h]at e;cases e
 ·rw[z8l h]at e;exact e
section
end
section
end
def x2W(K:aa)(F:List D->Option D):Sp:=fun vs H Q _=>∃(a:Addr) (ns:List Int),vs=[.ref a]∧SqF K H a (ns.map V.int)∧F [.scr ns]=some (.bl true)∧∀H',Q (.bl true) H'
theorem x3p{K:aa}{H:Hp}{a:Addr}{xs:List V}(hO:Only H)(h:SqL K H a xs):SqF K H a xs:=by
 rcases h with (h | h) | h
 ·rcases hO a with z | ⟨o,ys,z⟩ <;> (rw[h]at z;cases z)
 ·exact .inl h
 ·exact .inr h
theorem law_of{P:dw}{w:fE}{K:aa}{mg:Str->Option Value}{base:Heap}{k:Nat}{f:Addr}{fd:fF}{ps:List Str}{F:List D->Option D}(h:FnOk P w K mg base CX0 k f fd ps (spN K F)):FnOk P w K mg base CX0 k f fd ps (x2W K F):=by
 refine h.imp fun vs H Q E z=>?_
 obtain⟨a,ns,rfl,hq,e,q⟩:=z
 refine⟨[.scr ns],.bl true,.cons ?_ .nil,e,fun v H' A s t nd fr=>?_⟩
 ·unfold Rep
  exact⟨a,rfl,hq⟩
 ·cases (show v=V.bl true∧_ from t).1
  exact q H'
section
end
open PySem.MeetsSeq PySem.MeetsSeq2 PySem.MeetsSeq3 PySem.SeqRoads2 PySem.SeqAt
open PySem.AutoSeq1 (wpAny_loadPart')
theorem z7s{M:Model}{A:Around}{E:Value->Shared->Prop}{s:Shared}{β:Type}(f:Nat->β->Sem (ForInStep β))(I:List Nat->β->Shared->Prop)(Q:β->Shared->Prop)
  (turn:∀x rest b s,I (x::rest) b s->wpAny M A (f x b) (fun r s'=>match r with | .yield b'=>I rest b' s' | .done b'=>Q b' s') E s)
  (fin:∀b s,I [] b s->Q b s) (lo hi:Nat) (b:β) (h:I (cj lo (hi - lo)) b s):wpAny M A (forIn ([lo:hi]:Std.Legacy.Range) b f) Q E s:=by
 rw[Std.Legacy.Range.forIn_eq_forIn_range']
 have hsz:([lo:hi]:Std.Legacy.Range).size=hi - lo:=by simp[Std.Legacy.Range.size]
 show wpAny M A (forIn (cj lo ([lo:hi]:Std.Legacy.Range).size 1) b f) Q E s
 rw[hsz]
 exact wpAny_forIn_list f I Q turn fin _ b h
theorem y0N(l:Addr)(items:Array Value)(n:Nat)(dd:Option Addr)(sl:Array (Option Value))(x:Value)(e:Value->Bool)(j:Nat)(hj:j<items.size)(hit:e items[j]=true)(hno:∀m (hm:m<items.size),m<j->e items[m]=false):
  Meets (Builtin.«tuple.index» ⟨[.ref l,x],[]⟩)
   (fun A R s=>s.heap.get? l=some { cls:=.type "tuple",dict:=dd,data:=.seq items n,slots:=sl }∧(∀y,y∈items->EqAt A.in1 s y x (e y))∧R (.ok (.ret (.int j s.toks))) { s with toks:=s.toks+1 }):=
 .of_wp fun prog w A R s h=>by
  obtain⟨hp,g,d,tk,os⟩:=s;obtain⟨hl,he,h⟩:=h
  wp_walk using wpAny_loadPart' hl,z7s _ (fun rest b s'=>b.1=none∧s'=⟨hp,g,d,tk,os⟩∧∃i,i≤j∧rest=cj i (items.size - i)) _
  case turn=>
   rintro y rest b s' ⟨hb,rfl,i,hi,hr⟩
   have e1:items.size - i=(items.size - (i+1))+1:=by omega
   rw[e1,dG]at hr
   have h1:i=y:=(List.cons.inj hr).1.symm
   have h2:=(List.cons.inj hr).2
   subst h1
   have hlt:i<items.size:=by omega
   rw[eE hlt]
   refine wpAny_bind (he _ (Array.getElem_mem hlt) prog w _ _ ?_)
   by_cases hij:i=j
   ·subst hij
    rw[hit]
    wp_walk
    exact⟨_,rfl,h⟩
   ·rw[hno i hlt (by omega)]
    wp_walk
    exact⟨rfl,rfl,i+1,by omega,h2⟩
  case fin=>
   rintro⟨b1,b2⟩ s' ⟨hb,rfl,i,hi,hr⟩
   have:(cj i (items.size - i)).length=0:=by rw[←hr];rfl
   rw[List.length_range']at this
   omega
  case h=>
   exact⟨rfl,rfl,0,by omega,by simp⟩
section
variable{X:Cx}
theorem Inv.tupleO{pins:List (Addr×Obj)}{σ:St}{H:Hp}{s:Shared}{a:Addr}{xs:List V}(I:Inv X pins σ H s)(h:SqT X.K H a xs):∃(its:List Value) (ob:Obj) (n:Nat),Vals xs its∧s.heap.get? a=some ob∧ob.cls = .type "tuple" ∧ ob.dict=none∧ob.data = .seq its.toArray n∧xs.length≤sizeLine:=by
 rcases h with h | ⟨o,its,n,hk,hc,hs,hz,r⟩
 ·obtain⟨z,its,r,ob,e,c,n,hd⟩:=h.ok I.hok
  exact⟨its,ob,n,r,e,c.1,c.2,hd,z⟩
 ·refine⟨its.toList,o,n,r,I.kIn a o hk,hc.1,hc.2,by simpa using hs,?_⟩
  have e:=r.length
  simp only[bE]at e
  omega
def tTM(K:aa)(r:V->List V->Hp->VK->Prop)(to:TE)(t:TA):TE:=fun σ H Q=>to σ H fun x H1=>(∃a xs,x = .ref a∧SqT K H1 a xs)∧t σ H1 fun xs H2=>r x xs H2 Q
variable{o e:Expr}{es:List Expr}{to:TE}{t:TA}{name:Str}{apos cpos:Pos}{id:String}{r:V->List V->Hp->VK->Prop}
theorem pe_tm(slot:Slot "tuple" name id)(hty:typeOf (.builtin id)=pure (.type "method_descriptor"))(hm:MtR X id r)(ho:PE X o to)(ha:PA X (e::es) t)
  (hbase:fJ o name X.env (eval o X.env)=eval o X.env:=by rfl)
  (hfew:((fI cpos (starEach (e::es) X.env)).all (fun x=>!x.1)&&(fQ cpos (keywordEach [] X.env)).all (fun x=>x.1.isSome)
   && decide ((e::es).length+([]:List fK).length+(if([]:List fK).isEmpty then 0 else 1)<30))=true:=by rfl)
  (hline:(apos.endLine==cpos.line)=true:=by rfl) (hs:starEach (e::es) X.env=(false,eval e X.env)::starEach es X.env:=by rfl) (hplain:(fI cpos (starEach es X.env)).any (·.1)=false:=by rfl):
  PE X (.Call (.Attribute o name apos) (e::es) [] cpos) (tTM X.K r to t):=by
 intro pins s σ H Q I h
 refine wpAny_Call_method_late hbase hfew hline rfl (thn (ho pins s σ H _ I h) fun v s1 ⟨x,H1,I1,r1,⟨a,ys,ex,ty⟩,q1⟩=>?_)
 subst ex
 cases r1
 obtain⟨its,ob,n,_,e1,c1,d1,_⟩:=I1.tupleO ty
 refine⟨"tuple",id,PySem.F.plainAttrs_tuple,slot,hty,⟨ob,e1,c1⟩,fun a e=>(by cases e;exact⟨ob,e1,d1⟩),?_⟩
 have hA:=ha cpos pins s1 σ H1 _ I1 q1
 rw[hs]at hA ⊢
 refine Calls.callWith_builtin (by show(false||(fI cpos (starEach es X.env)).any (·.1))=false;rw[hplain] <;> rfl) (Calls.evalArgs_plain ?_)
 exact thn hA fun us s2 ⟨vs,H2,I2,r2,q2⟩=>hm pins s2 σ H2 (.ref a) vs (.ref a) us Q I2 rfl r2 q2
def rTIx(K:aa):V->List V->Hp->VK->Prop:=fun x vs H Q=>∃(a:Addr) (ns:List Int) (i:Int) (j:Nat),x = .ref a∧vs=[.int i]∧SqT K H a (ns.map V.int)∧ns.findIdx? (fun n=>n==i)=some j∧Q (.int (j:Int)) H
theorem y3p:∀{ns:List Int} {its:List Value},Vals (ns.map V.int) its->∀(k:Nat) (h:k<its.length),∃t,∃h2:k<ns.length,its[k] = .int ns[k] t
 |[],_,.nil,_,h=>by simp at h
 |n::ns,_,.cons r t,k,h=>by
  obtain⟨u,rfl⟩:=r
  cases k with
  |zero=>exact⟨u,by simp,rfl⟩
  |succ k=>
   obtain⟨w,h2,e⟩:=y3p t k (by simpa using h)
   exact⟨w,by simpa using h2,by simpa using e⟩
def isI(i:Int):Value->Bool
 |.int k _=>k==i
 |_=>false
theorem y7D:MtR X "tuple.index" (rTIx X.K):=by
 intro pins s σ H x vs v us Q I rx rv h
 obtain⟨a,ns,i,j,rfl,rfl,hq,hj,q⟩:=h
 cases rx
 obtain⟨u,rfl,ru⟩:=rv.one
 obtain⟨ut,rfl⟩:=ru
 obtain⟨its,⟨cls,dct,dat,sl⟩,n,r,e,c,d,hd,_⟩:=I.tupleO hq
 subst c;subst hd
 obtain⟨hjl,hji,hjm⟩:=dz.mp hj
 have hl:ns.length=its.length:=by have:=r.length;simpa using this
 have hj2:j<its.length:=by omega
 refine call_meets F.slot_tuple_index ⟨_,e,rfl⟩ F.entry_tuple_index (F.args_tuple_index_2 _ _) (y0N a its.toArray n dct sl (.int i ut) (isI i) j (by simpa using hj2) ?_ ?_) ⟨e,?_,?_⟩
 ·obtain⟨t,h2,e2⟩:=y3p r j hj2
  simp[e2,isI]
  simpa using hji
 ·intro m hm hmj
  obtain⟨t,h2,e2⟩:=y3p r m (by omega)
  have:=hjm m hmj
  simp[e2,isI]
  simpa using this
 ·intro y hy
  obtain⟨k,hk,rfl⟩:=fw (show y∈its by simpa using hy)
  obtain⟨t,h2,e2⟩:=y3p r k hk
  rw[e2]
  exact SeqAt.EqAt.int_int _ _ _ _
 ·exact⟨.int (j:Int),H,I.tok _,⟨_,rfl⟩,q⟩
theorem z7q:∀{ds:List D} {ns:List Int},z2d ds=some ns->ds=ns.map D.int
 |[],ns,h=>by cases h;rfl
 |.int i::r,ns,h=>by
  unfold z2d at h
  cases e:z2d r with
  |none=>rw[e]at h;cases h
  |some ms=>rw[e]at h;cases h;rw[aC,z7q e]
 |.non::_,_,h=>by cases h
 |.bl _::_,_,h=>by cases h
 |.str _::_,_,h=>by cases h
 |.lst _::_,_,h=>by cases h
 |.tup _::_,_,h=>by cases h
 |.scr _::_,_,h=>by cases h
 |.dct _ _::_,_,h=>by cases h
 |.exc _::_,_,h=>by cases h
 |.obj _ _ _ _::_,_,h=>by cases h
 |.cel _ _::_,_,h=>by cases h
theorem z9F{K:aa}{H:Hp}{B:Addr->Prop}:∀{ns:List Int} {xs:List V},Reps K H B (ns.map D.int) xs->xs=ns.map V.int
 |[],_,h=>by unfold Reps at h;exact h
 |n::ns,_,h=>by
  rw[aC]at h
  unfold Reps at h
  obtain⟨x,r,rfl,h1,h2⟩:=h
  unfold Rep at h1
  rw[h1,z9F h2]
  rfl
def tixF:D->D->Option D
 |.tup ds,.int i=>(z2d ds).bind fun ns=>(ns.findIdx? (fun n=>n==i)).map fun j=>.int (j:Int)
 |_,_=>none
theorem z7y{f g:DE}(ho:PD X o f)(he:PD X e g)(hbase:fJ o "index" X.env (eval o X.env)=eval o X.env:=by rfl)
  (hfew:((fI cpos (starEach [e] X.env)).all (fun x=>!x.1)&&(fQ cpos (keywordEach [] X.env)).all (fun x=>x.1.isSome)&&decide ([e].length+([]:List fK).length+(if([]:List fK).isEmpty then 0 else 1)<30))=true:=by rfl)
  (hline:(apos.endLine==cpos.line)=true:=by rfl) (hs:starEach [e] X.env=(false,eval e X.env)::starEach [] X.env:=by rfl):
  PD X (.Call (.Attribute o "index" apos) [e] [] cpos) (d2 tixF f g):=
 (pe_tm PySem.F.slot_tuple_index PySem.F.type_tuple_index y7D ho (z0M he pa_nil hs) hbase hfew hline hs rfl).imp fun σ H Q ⟨B,δ,d,hB,S,q,k⟩=>by
  obtain⟨x,y,e1,e2,e3⟩:=z5Z q
  unfold tixF at e3
  split at e3
  case h_2=>cases e3
  case h_1 ds i=>
  cases e4:z2d ds with
  |none=>rw[e4]at e3;cases e3
  |some ns=>
  rw[e4,aj]at e3
  cases e5:ns.findIdx? (fun n=>n==i)with
  |none=>rw[e5]at e3;cases e3
  |some j=>
  rw[e5]at e3
  cases e3
  have eds:=z7q e4
  subst eds
  refine⟨B,δ,_,hB,S,e1,fun v H1 s1 r1=>?_⟩
  unfold Rep at r1
  obtain⟨a,xs,rfl,hq,rs⟩:=r1
  have ex:=z9F rs
  subst ex
  refine⟨⟨a,_,rfl,hq⟩,B,δ,_,hB.mono s1,S.mono s1,e2,fun v2 H2 s2 r2=>?_⟩
  unfold Rep at r2
  subst r2
  exact⟨a,ns,i,j,rfl,rfl,s2.tup hq,e5,k _ H2 (s1.trans s2) (by unfold Rep;rfl)⟩
end
open PySem.AutoSeq1 (wpAny_loadPart')
section
variable{prog:dw}{w:fE}{A:Around}{E:Value->Shared->Prop}{s:Shared}
theorem z6p{Q:List Value->Shared->Prop}{r:Addr}{a b:Int}{t u v:Tok}{n:Nat}(hh:A.handled=none)(hr:IsRange s.heap r a b 1 t u v)(hsmall:Builtin.Range.small a b 1=true)(hn:Builtin.Range.rangeSize a b 1=n)(hlen:n≤2 ^ 24)
  (hQ:∀h' tk acc',(∀b o',s.heap.get? b=some o'->h'.get? b=some o')->ItemsOf (fun i v=>∃t,v = .int (a+i*1) t) acc' n->Q acc'.toList { s with heap:=h',toks:=tk }):
  wpAny (model prog w) A (collect (.ref r)) Q E s:=by
 unfold collect
 refine wpAny_bind (wpAny_runValue (codeAny_builtin F.entry_proto_collect ?_))
 rw[Around.under_plainId F.plain_proto_collect _]
 show wpAny _ A.in1 (newList [] >>= fun l=>again (.builtin "list.__iadd__" ⟨[l,.ref r],[]⟩)) _ _ s
 refine wpAny_bind (wpAny_newObj_type ?_)
 refine wpAny_pure ⟨plainId_quiet F.plain_list_iadd _,codeAny_builtin F.entry_list_iadd ?_⟩
 rw[Around.under_plainId F.plain_list_iadd _]
 show wpAny _ A.in1 (Builtin.List.listExtendWith (.ref s.heap.objs.size) (.ref r) (.ref s.heap.objs.size)) _ _ _
 have hS:(s.heap.push { cls:=.type "list",data:=.seq ([]:List Value).toArray }).get? s.heap.objs.size=some { cls:=.type "list",data:=.seq #[] 0 }:=Heap.get?_push_size _ rfl
 have fin':∀(h':Heap) (tk:Nat) (acc':Array Value) (c':Nat),(∀b o,b≠s.heap.objs.size->(s.heap.push { cls:=.type "list",data:=.seq ([]:List Value).toArray }).get? b=some o->h'.get? b=some o) →
   h'.get? s.heap.objs.size=some { cls:=.type "list",dict:=none,data:=.seq acc' c',slots:=#[] }->ItemsOf (fun i v=>∃t,v = .int (a+i*1) t) acc' n →
   wpAny (model prog w) A (match Value.ref s.heap.objs.size with
   |Value.ref a=>do
    match (←load a).data with
     |Data.seq xs _=>pure xs.toList
     |_=>unsupported "internal:collect"
   |_=>unsupported "internal:collect") Q E { s with heap:=h',toks:=tk }:=by
  intro h' tk acc' c' kp e it
  show wpAny _ A (load s.heap.objs.size >>= _) _ _ _
  refine wpAny_bind (wpAny_load e ?_)
  refine wpAny_pure ?_
  exact hQ h' tk acc' (fun b o' hb=>kp b o' (aH (Heap.lt_size hb)) (Heap.get?_push_of_some _ hb)) it
 refine wpAny_mono (wpAny_extend_range (A:=A) (R:=fun r s'=>∃(h':Heap) (tk:Nat) (acc':Array Value) (c':Nat),r = .ok (.ret (.ref s.heap.objs.size))∧s' = { s with heap:=h',toks:=tk }∧(∀b o,b≠s.heap.objs.size->(s.heap.push { cls:=.type "list",data:=.seq ([]:List Value).toArray }).get? b=some o->h'.get? b=some o) ∧
   h'.get? s.heap.objs.size=some { cls:=.type "list",dict:=none,data:=.seq acc' c',slots:=#[] }∧ItemsOf (fun i v=>∃t,v = .int (a+i*1) t) acc' n)
  (s:={ s with heap:=s.heap.push { cls:=.type "list",data:=.seq ([]:List Value).toArray } }) hh (Heap.get?_push_of_some _ hr) hsmall hn hlen _ _ 0 hS fun h' tk acc' c' k e i=>⟨h',tk,acc',c',rfl,rfl,k,e,i⟩) (fun fin s' h=>?_) (fun e s' h=>?_)
 ·cases fin with
  |done f=>
   obtain⟨h',tk,acc',c',e,rfl,k,e2,i⟩:=h
   cases e
   exact fin' h' tk acc' c' k e2 i
  |again c'=>exact⟨h.1,codeAny_mono h.2 fun r s'' hr=>by obtain⟨h',tk,acc',c',rfl,rfl,k,e2,i⟩:=hr;exact fin' h' tk acc' c' k e2 i⟩
 ·obtain⟨_,_,_,_,e,_⟩:=h
  exact absurd e (by simp)
theorem z4U(r:Addr)(a b:Int)(t u v:Tok)(n:Nat)(hsmall:Builtin.Range.small a b 1=true)(hn:Builtin.Range.rangeSize a b 1=n)(hlen:n≤2 ^ 24):
  Meets (Builtin.«tuple.__new__» ⟨[.type "tuple",.ref r],[]⟩)
   (fun A R s=>A.handled=none∧IsRange s.heap r a b 1 t u v∧∀(h':Heap) (tk:Nat) (acc':Array Value),(∀b o',s.heap.get? b=some o'->h'.get? b=some o')->ItemsOf (fun i v=>∃t,v = .int (a+i*1) t) acc' n->R (.ok (.ret (.ref h'.objs.size))) { s with heap:=h'.push { cls:=.type "tuple",data:=.seq acc' },toks:=tk }):=
 .of_wp fun prog w A R s h=>by
  obtain⟨hp,g,d,tk,os⟩:=s;obtain⟨hh,ht,h⟩:=h
  have hsub:=sub_tuple_self
  have hinit:=init_tuple_lookup
  have hmh:=madeHere_tuple
  have ht':hp.get? r=some { cls:=.type "range",data:=.fields #[.int a t,.int b u,.int 1 v] }:=ht
  have hT:Shared.TypeIs ⟨hp,g,d,tk,os⟩ (.ref r) "range" := ⟨_,ht,rfl⟩
  wp_walk using wpAny_loadPart' ht',wpAny_typeOf hT,z6p (A:=A.in1) hh ht hsmall hn hlen
  intro h' tk' acc' hk hi
  show wpAny _ _ (Builtin.Tuple.tupleExact acc'.toList.toArray >>= fun v=>ret v) _ _ _
  unfold Builtin.Tuple.tupleExact
  refine wpAny_bind (wpAny_newObj_type ?_ (by show acc'.toList.toArray.size≤sizeLine;have:=hi.1;rw[sizeLine_eq];simp;omega))
  refine wpAny_pure ⟨_,rfl,?_⟩
  have e:acc'.toList.toArray=acc':=by simp
  rw[e]
  exact h h' tk' acc' hk hi
theorem z8E{r:Addr}{a b:Int}{t u v:Tok}{n:Nat}{Q:Value->Shared->Prop}(hh:A.handled=none)(hr:IsRange s.heap r a b 1 t u v)(hsmall:Builtin.Range.small a b 1=true)(hn:Builtin.Range.rangeSize a b 1=n)(hlen:n≤2 ^ 24)
  (h:∀(h':Heap) (tk:Nat) (acc':Array Value),(∀b o',s.heap.get? b=some o'->h'.get? b=some o')->ItemsOf (fun i v=>∃t,v = .int (a+i*1) t) acc' n->Q (.ref h'.objs.size) { s with heap:=h'.push { cls:=.type "tuple",data:=.seq acc' },toks:=tk }):
  wpAny (model prog w) A (call (.type "tuple") [.ref r]) Q E s:=
 callType_new F.called_tuple (by decide) (F.typeCall_tuple_1 _) (F.newCall_tuple_1 _) (fun obj=>F.args_object_init_2 obj _) F.entry_tuple_new
  (z4U r a b t u v n hsmall hn hlen) ⟨hh,hr,fun h' tk acc' hk hi=>⟨⟨_,Heap.get?_push_size _ rfl,rfl⟩,h h' tk acc' hk hi⟩⟩
end
def tRngV1(ta:TA):TE:=fun σ H Q=>ta σ H fun vs H1=>∃j:Int,vs=[.int j]∧∀p,H1 p=none->Q (.ref p) (upd H1 p (.rng 0 j))
section
variable{X:Cx}
theorem y2c{a:Expr}{ta:TA}{p pos:Pos}(hg:Gl X "range")(hm:X.mg "range" = none)(ha:PA X [a] ta)(hs:starEach [a] X.env=[(false,eval a X.env)]:=by rfl):PE X (.Call (.Name "range" p) [a] [] pos) (tRngV1 ta):=by
 intro pins s σ H Q I h
 refine wpAny_Call_Name_kw (z5D I hg hm boot_range (PyProof.Rows.callWith_type1 (thn (ha pos pins s σ H _ I h) fun us s1 ⟨vs,H1,I1,r1,q1⟩=>?_) hs rfl))
 obtain⟨j,e,q⟩:=q1
 subst e
 cases r1 with
 |cons r rr=>
  cases rr
  obtain⟨t,rfl⟩:=r
  refine call_range_1 ⟨.ref s1.heap.objs.size,_,I1.laid (fun b o e=>Heap.get?_push_of_some _ e) (am _) ?_,rfl,q _ (I1.hok.fresh (am _))⟩
  exact⟨_,_,_,Heap.get?_push_size _ rfl⟩
def x1n(lo:Int)(n:Nat):List V:=(ad n).map fun i=>.int (lo+(i:Nat))
theorem z8T{lo:Int}:∀{n:Nat} {acc:Array Value},ItemsOf (fun i v=>∃t,v=Value.int (lo+i*1) t) acc n->Vals (x1n lo n) acc.toList:=by
 intro n acc h
 obtain⟨hs,hv⟩:=h
 have key:∀(vs:List Value) (k:Nat),(∀j v,vs[j]? = some v->∃t,v=Value.int (lo+((k+j:Nat):Int)) t)->Vals ((cj k vs.length).map fun i=>V.int (lo+(i:Nat))) vs:=by
  intro vs
  induction vs with
  |nil=>intro k _;exact .nil
  |cons x r ih=>
   intro k hx
   rw[aY,dG,aC]
   obtain⟨t,e⟩:=hx 0 x rfl
   refine .cons ⟨t,by simpa using e⟩ (ih (k+1) fun j v hj=>?_)
   obtain⟨t,e⟩:=hx (j+1) v (by simpa using hj)
   exact⟨t,by rw[e];congr 1 <;> omega⟩
 have:=key acc.toList 0 fun j v hj=>by
  obtain⟨t,e⟩:=hv j v (by simpa using hj)
  exact⟨t,by rw[e];congr 1 <;> omega⟩
 rw[←ff,bE,hs]at this
 exact this
theorem y5G{lo:Int}{n:Nat}:(x1n lo n).length=n:=by simp[x1n]
theorem y2Z(hc:X.calm=true):z3w X (.type "tuple") (fun xs H Q=>∃(p:Addr) (lo hi:Int),xs=[.ref p]∧H p=some (.rng lo hi)∧(-(2 ^ 62)≤lo∧lo<2 ^ 62∧-(2 ^ 62)≤hi∧hi<2 ^ 62)∧(hi - lo).toNat≤sizeLine∧∀H',Same H H'->∀l,H' l=none->Q (.ref l) (upd H' l (.tup (x1n lo (hi - lo).toNat)))):=by
 intro pins s σ H xs us Q I r h
 obtain⟨p,lo,hi,rfl,hp,hb,hl,q⟩:=h
 obtain⟨u,rfl,rx⟩:=z6O r
 cases rx
 obtain⟨t,u,v,e⟩:=I.hok p _ hp
 refine z8E (I.ok.hd hc) e (small_one hb.1 hb.2.1 hb.2.2.1 hb.2.2.2) (n:=(hi - lo).toNat) (by rw[rangeSize_one];split <;> omega) (by rw[sizeLine_eq]at hl;omega) fun h' tk acc' kp it=>?_
 have I1:Inv X pins σ H { s with heap:=h',toks:=tk }:=I.kept kp
 have I2:Inv X pins σ (upd H h'.objs.size (.tup (x1n lo (hi - lo).toNat))) { s with heap:=h'.push { cls:=.type "tuple",data:=.seq acc' },toks:=tk }:=
  I1.laid (fun b o e=>Heap.get?_push_of_some _ e) (am _) (show ObjOk X.prog X.w _ _ _ (.tup (x1n lo (hi - lo).toNat)) from⟨by rw[y5G];exact hl,acc'.toList,z8T it,by simpa using TupN.new h' acc'⟩)
 exact⟨.ref h'.objs.size,_,I2,rfl,q H (.refl H) _ (I1.hok.fresh (am _))⟩
theorem y6q(hc:X.calm=true):z3w X (.type "list") (fun xs H Q=>∃(p:Addr) (lo hi:Int),xs=[.ref p]∧H p=some (.rng lo hi)∧(-(2 ^ 62)≤lo∧lo<2 ^ 62∧-(2 ^ 62)≤hi∧hi<2 ^ 62)∧(hi - lo).toNat≤sizeLine∧∀l,H l=none->Q (.ref l) (upd H l (.lst (x1n lo (hi - lo).toNat)))):=by
 intro pins s σ H xs us Q I r h
 obtain⟨p,lo,hi,rfl,hp,hb,hl,q⟩:=h
 obtain⟨u,rfl,rx⟩:=z6O r
 cases rx
 obtain⟨t,u,v,e⟩:=I.hok p _ hp
 refine call_list_range (I.ok.hd hc) e (small_one hb.1 hb.2.1 hb.2.2.1 hb.2.2.2) (n:=(hi - lo).toNat) (by rw[rangeSize_one];split <;> omega) (by rw[sizeLine_eq]at hl;omega) fun h' tk acc' c' kp e2 it=>?_
 have I2:Inv X pins σ (upd H s.heap.objs.size (.lst (x1n lo (hi - lo).toNat))) { s with heap:=h',toks:=tk }:=
  I.laid kp (am _) (show ObjOk X.prog X.w _ h' _ (.lst (x1n lo (hi - lo).toNat)) from⟨by rw[y5G];exact hl,acc'.toList,c',z8T it,by simpa using e2⟩)
 exact⟨.ref s.heap.objs.size,_,I2,rfl,q _ (I.hok.fresh (am _))⟩
def z4G(g:DS->Option (List D)):DS->Option (List D):=fun δ=>(g δ).bind fun ds=>if ds.length≤sizeLine then some ds else none
theorem y5y{K:aa}{H:Hp}{B:Addr->Prop}{lo:Int}{n:Nat}:Reps K H B (z2h lo n) (x1n lo n):=by
 unfold z2h x1n
 generalize ad n=l
 induction l with
 |nil=>exact .nil
 |cons k r ih=>exact .cons (by unfold Rep;rfl) ih
theorem y2b{f:DE}{δ:DS}{ds:List D}(h:z1g f δ=some ds):∃j:Int,f δ=some (.int j)∧-(2 ^ 62)≤j∧j<2 ^ 62∧ds=z2h 0 j.toNat:=by
 unfold z1g at h
 split at h
 ·rename_i j e
  split at h
  ·rename_i hb
   cases h
   exact⟨j,e,hb.1,hb.2,rfl⟩
  ·cases h
 ·cases h
theorem z8H{g:DS->Option (List D)}{δ:DS}{ds:List D}(h:z4G g δ=some ds):g δ=some ds∧ds.length≤sizeLine:=by
 unfold z4G at h
 cases e:g δ with
 |none=>rw[e]at h;cases h
 |some es=>
  rw[e]at h
  have h:(if es.length≤sizeLine then some es else none)=some ds:=h
  split at h
  ·cases h;exact⟨rfl,by assumption⟩
  ·cases h
theorem y5C{lo:Int}{n:Nat}:(z2h lo n).length=n:=by simp[z2h]
variable{a:Expr}{f:DE}{p p2 pos pos2:Pos}
theorem y4E(hc:X.calm=true)(hg:Gl X "tuple")(hm:X.mg "tuple" = none)(hg2:Gl X "range")(hm2:X.mg "range" = none)(h:PD X a f)(he2:starEach [a] X.env=[(false,eval a X.env)]:=by rfl)
  (he:starEach [.Call (.Name "range" p2) [a] [] pos2] X.env=[(false,eval (.Call (.Name "range" p2) [a] [] pos2) X.env)]:=by rfl):PD X (.Call (.Name "tuple" p) [.Call (.Name "range" p2) [a] [] pos2] [] pos) (mkT (z4G (z1g f))):=
 (z5v (y2Z hc) hg hm PyProof.Rows.Boot.«tuple» (z0M (y2c hg2 hm2 (z0M h pa_nil he2) he2) pa_nil he) (by decide) (by decide) he rfl).imp fun σ H Q ⟨B,δ,d,hB,S,q,k⟩=>by
  unfold mkT at q
  cases e1:z4G (z1g f) δ with
  |none=>rw[e1]at q;cases q
  |some ds=>
  rw[e1]at q
  cases q
  obtain⟨e2,hl⟩:=z8H e1
  obtain⟨j,e3,h1,h2,rfl⟩:=y2b e2
  rw[y5C]at hl
  refine⟨B,δ,_,hB,S,e3,fun v H1 s1 r1=>?_⟩
  unfold Rep at r1
  subst r1
  refine⟨j,rfl,fun r hr=>⟨r,0,j,rfl,z0o,⟨by omega,by omega,h1,h2⟩,by simpa using hl,fun H' s' l hl'=>?_⟩⟩
  refine k _ _ ((s1.trans (z0n hr)).trans (s'.trans (z0n hl'))) ?_
  unfold Rep
  exact⟨l,_,rfl,SqT.of z0o,by rw[Int.sub_zero];exact y5y⟩
theorem x0V(hc:X.calm=true)(hg:Gl X "list")(hm:X.mg "list" = none)(hg2:Gl X "range")(hm2:X.mg "range" = none)(h:PD X a f)(he2:starEach [a] X.env=[(false,eval a X.env)]:=by rfl)
  (he:starEach [.Call (.Name "range" p2) [a] [] pos2] X.env=[(false,eval (.Call (.Name "range" p2) [a] [] pos2) X.env)]:=by rfl):PF X (.Call (.Name "list" p) [.Call (.Name "range" p2) [a] [] pos2] [] pos) (z4G (z1g f)):=
 (z5v (y6q hc) hg hm PyProof.Rows.Boot.«list» (z0M (y2c hg2 hm2 (z0M h pa_nil he2) he2) pa_nil he) (by decide) (by decide) he rfl).imp fun σ H Q ⟨B,δ,ds,hB,S,e1,k⟩=>by
  obtain⟨e2,hl⟩:=z8H e1
  obtain⟨j,e3,h1,h2,rfl⟩:=y2b e2
  rw[y5C]at hl
  refine⟨B,δ,_,hB,S,e3,fun v H1 s1 r1=>?_⟩
  unfold Rep at r1
  subst r1
  refine⟨j,rfl,fun r hr=>⟨r,0,j,rfl,z0o,⟨by omega,by omega,h1,h2⟩,by simpa using hl,fun l hl'=>?_⟩⟩
  refine k l _ _ ((s1.trans (z0n hr)).trans (z0n hl')) (s1.free ((z0n (H:=H1) hr).free hl')) z0o ?_
  rw[Int.sub_zero]
  exact y5y
end
section
variable{X:Cx}{pins:List (Addr×Obj)}{σ:St}{H:Hp}{s:Shared}{h':Heap}
theorem Inv.turnedL{t':Nat}{fp:List Addr}(I:Inv X pins σ H s)(k:∀b o,b∉fp->s.heap.get? b=some o->h'.get? b=some o)(hf:∀b∈fp,y2A X pins H b):Inv X pins σ H { s with heap:=h',toks:=t' }:=by
 have nit:∀b u,H b=some u->b∉fp:=fun b u e z=>by rw[(hf b z).1]at e;cases e
 have nL:X.env.locals∉fp:=fun z=>(hf _ z).2.1 rfl
 refine I.step (g':=s.gens) (d':=s.drawn) (ch:=fp) (fun b hb=>?_) (fun b o _ _ hc e _=>k b o hc e) (fun b o _ _ hc e _=>⟨o.slots,k b o hc e⟩) (fun _ _ _ _ n=>n)
  (fun b o hc e=>⟨o,k b o hc e⟩) (fun _ _ e=>e) (fun _ _ _ e=>e) (fun b ps e=>⟨#[],by rw[e];simp⟩) (fun m hm=>?_) (fun b u e=>?_) I.bare
 ·obtain⟨f0,f1,f2,f3,f4,f5⟩:=hf b hb
  exact⟨f3,f1,f4,f5⟩
 ·obtain⟨o,es,ep,ho,r⟩:=hm
  exact⟨o,es,ep,k _ o nL ho,r⟩
 ·refine(I.hok b u e).stay (fun c v hc q=>k c v ?_ q) (fun _ q=>q) fun _ _ q=>q
  rcases hc with z | z
  ·rw[z];exact nit b u e
  ·exact nit c _ z
def Ite(K:aa)(a:Addr):It:=
 ⟨fun i H=>∃xs x,SqL K H a xs∧xs[i]? = some x,fun i H v H'=>∃p x,H p=none∧v = .ref p∧H'=upd H p (.tup [.int (i:Nat),x])∧∀xs,SqL K H a xs->xs[i]? = some x,fun i H=>∃xs,SqL K H a xs∧xs.length≤i⟩
theorem y8C{P:dw}{w:fE}{K:aa}{elts:List Expr}{x1}{tp:Pos}(a e it:Addr)(hne:e≠it):
  Turn P w K (.Tuple elts x1 tp) (Ite K a) [e,it] e (fun i h=>(∃old,IsEnum h e it ((i:Nat):Int) old)∧h.IsListIter it a i) where
 mem:=by simp
 obj:=fun i h st b hb=>by
  obtain⟨⟨old,he⟩,o,eo,c,d⟩:=st
  rcases ao.mp hb with z | z
  ·subst z
   exact⟨_,he,fun v z=>by cases z⟩
  ·have z:b=it:=by simpa using z
   subst z
   exact⟨o,eo,fun v z=>by rw[d]at z;cases z⟩
 keep:=fun i h h' st k=>by
  obtain⟨⟨old,he⟩,hi⟩:=st
  exact⟨⟨old,k e (by simp) _ he⟩,hi.at fun o q=>k it (by simp) o q⟩
 item:=by
  intro X hP hw hK hc i pins s σ H E I hf st hg
  subst hP hw hK
  obtain⟨xs,x,hq,hx⟩:=hg
  obtain⟨its,rv,p,hz⟩:=I.list hq
  obtain⟨u,hu,ru⟩:=rv.get hx
  obtain⟨⟨old,he⟩,hi⟩:=st
  refine wpAny_pyNext_enum_item he hi p.isList (x:=u) (by simpa using hu) hne fun h1 heo hi1 ht1 hz1 hk1=>⟨_,rfl,?_⟩
  refine wpAny_letOwnedTupleGo_enum heo fun h2 he2 hs2=>?_
  have hs2:Heap.SameBut e h1 h2:=hs2
  have elt:e<s.heap.objs.size:=Heap.lt_size he
  obtain⟨oi,eoi,_⟩:=id hi
  have ilt:it<s.heap.objs.size:=Heap.lt_size eoi
  have hp:H s.heap.objs.size=none:=I.hok.fresh (am _)
  have I1:Inv X pins σ (upd H s.heap.objs.size (.tup [.int (i:Nat),x])) { s with heap:=s.heap.push { cls:=.type "tuple",data:=.seq #[.int (i:Nat) s.toks,u] },toks:=s.toks+1 }:=
   I.laid (fun b o q=>Heap.get?_push_of_some _ q) (am _) (show ObjOk X.prog X.w _ _ _ (.tup [.int (i:Nat),x]) from⟨by show 2≤sizeLine;rw[sizeLine_eq];decide,[.int (i:Nat) s.toks,u],.cons ⟨_,rfl⟩ (.cons ru .nil),TupN.new _ _⟩)
  have hf1:∀b∈[e,it],y2A X pins (upd H s.heap.objs.size (.tup [.int (i:Nat),x])) b:=fun b hb=>by
   obtain⟨f0,f⟩:=hf b hb
   refine⟨?_,f⟩
   have:b≠s.heap.objs.size:=by
    rcases ao.mp hb with z | z
    ·rw[z];exact aH elt
    ·have z:b=it:=by simpa using z
     rw[z];exact aH ilt
   rw[z0v this]
   exact f0
  have kk:∀b o,b∉[e,it]->(s.heap.push { cls:=.type "tuple",data:=.seq #[.int (i:Nat) s.toks,u] }).get? b=some o->h2.get? b=some o:=by
   intro b o hb q
   have hbe:b≠e:=fun z=>hb (by simp[z])
   have hbi:b≠it:=fun z=>hb (by simp[z])
   rw[hs2.2 b hbe]
   by_cases hbs:b=s.heap.objs.size
   ·subst hbs
    rw[ht1]
    have:(s.heap.push { cls:=.type "tuple",data:=.seq #[.int (i:Nat) s.toks,u] }).get? s.heap.objs.size=some { cls:=.type "tuple",data:=.seq #[.int (i:Nat) s.toks,u] }:=Heap.get?_push_size _ rfl
    exact this.symm.trans q
   ·have q':s.heap.get? b=some o:=(Heap.get?_push_ne s.heap _ _ hbs).symm.trans q
    exact hk1 b o hbe hbi q'
  have I2:Inv X pins σ (upd H s.heap.objs.size (.tup [.int (i:Nat),x])) { s with heap:=h2,toks:=s.toks+1 }:=Inv.turnedL (s:={ s with heap:=s.heap.push { cls:=.type "tuple",data:=.seq #[.int (i:Nat) s.toks,u] },toks:=s.toks+1 }) (h':=h2) (t':=s.toks+1) (fp:=[e,it]) I1 kk hf1
  refine⟨.ref s.heap.objs.size,_,I2,rfl,⟨_,x,hp,rfl,rfl,fun ys hy=>by rw[I.list_inj hy hq];exact hx⟩,⟨⟨u,?_⟩,?_⟩,fun b hb=>(hf1 b hb).1⟩
  ·have:(((i+1:Nat):Int))=((i:Int)+1):=by omega
   rw[this]
   exact he2
  ·exact hi1.at fun o q=>(hs2.2 it (Ne.symm hne)).trans q
 done:=by
  intro X hP hw hK hc i pins s σ H E I hf st hg
  subst hP hw hK
  obtain⟨xs,hq,hx⟩:=hg
  obtain⟨its,rv,p,hz⟩:=I.list hq
  obtain⟨⟨old,he⟩,hi⟩:=st
  have hl:=rv.length
  exact wpAny_pyNext_enum_end (I.ok.hd hc) he hi p.isList (by simp;omega) fun h' eb=>⟨rfl,I.turnedL (t':=s.toks) (fp:=[e,it]) (fun b o hb q=>eb b o (fun z=>hb (by simp[z])) q) hf⟩
 self:=fun _ _ _ _ _ st h=>let⟨⟨_,he⟩,_⟩:=st;wpAny_pyIter_enum he h
def iEnum(K:aa)(tl:TE):TI:=fun σ H R=>tl σ H fun x H1=>∃a,[x]=[V.ref a]∧(∃xs,SqL K H1 a xs)∧R (Ite K a) H1
theorem pi_enum{elts:List Expr}{x1}{tp p pos:Pos}{l:Expr}{tl:TE}(hg:Gl X "enumerate")(hm:X.mg "enumerate" = none)(hl:PE X l tl)(hs:starEach [l] X.env=[(false,eval l X.env)]:=by rfl):
  PI X (.Tuple elts x1 tp) (.Call (.Name "enumerate" p) [l] [] pos) (iEnum X.K tl):=by
 intro pins s σ H R I h
 have hA:PA X [l] (fun σ H Q=>tl σ H fun x H1=>Q [x] H1):=(z0M hl pa_nil (by rw[hs];rfl)).imp fun σ H Q q=>q
 refine wpAny_Call_Name_kw (z5D I hg hm boot_enumerate (PyProof.Rows.callWith_type1 (thn (hA pos pins s σ H (fun vs H1=>∃a,vs=[V.ref a]∧(∃xs,SqL X.K H1 a xs)∧R (Ite X.K a) H1) I h) fun us s1 ⟨vs,H1,I1,r1,q1⟩=>?_) hs rfl))
 obtain⟨a,rfl,⟨xs,hq⟩,q⟩:=q1
 obtain⟨u,rfl,ru⟩:=r1.one
 cases ru
 obtain⟨its,rv,pl,hz⟩:=I1.list hq
 refine call_enumerate_list pl.isList fun h1 he hi hsz kp=>?_
 refine wpAny_pyIter_enum he ?_
 have I2:Inv X pins σ H1 { s1 with heap:=h1 }:=I1.kept (t':=s1.toks) kp
 refine⟨s1.heap.objs.size+1,[s1.heap.objs.size+1,s1.heap.objs.size],_,_,H1,rfl,I2,y8C a _ _ (Nat.succ_ne_self _),⟨⟨_,he⟩,hi⟩,fun b hb=>?_,q⟩
 have hb':s1.heap.objs.size≤b:=by
  rcases ao.mp hb with z | z
  ·rw[z];exact dP _
  ·have z:b=s1.heap.objs.size:=by simpa using z
   rw[z];exact am _
 exact I1.fpOk hb' (I1.hok.fresh hb')
end
def z0y(k:Nat):List D->List D
 |[]=>[]
 |d::r=>.tup [.int (k:Nat),d]::z0y (k+1) r
theorem y5j:∀{ds:List D} {k i:Nat},(z0y k ds)[i]? = (ds[i]?).map fun d=>.tup [.int ((k+i:Nat):Int),d]
 |[],_,_=>by simp[z0y]
 |d::r,k,0=>by simp[z0y]
 |d::r,k,i+1=>by
  show(z0y (k+1) r)[i]? = (r[i]?).map _
  rw[y5j]
  congr 1
  funext d
  congr 3
  omega
theorem y0p:∀{ds:List D} {k:Nat},(z0y k ds).length=ds.length
 |[],_=>rfl
 |d::r,k=>by show(z0y (k+1) r).length+1=r.length+1;rw[y0p]
theorem y4r{K:aa}{H:Hp}{B:Addr->Prop}{a:Addr}{xs:List V}{ds:List D}(hs:∀H',Keep K B H H'->SqL K H' a xs)(r:Reps K H B ds xs):ItD K (Ite K a) H B (z0y 0 ds):=by
 have hl:=r.length
 refine⟨fun i H' kp hi=>?_,fun i H' kp hi=>?_,fun i H' v H2 kp hy=>?_⟩
 ·rw[y0p,hl]at hi
  exact⟨xs,xs[i],hs H' kp,ac hi⟩
 ·rw[y0p,hl]at hi
  exact⟨xs,hs H' kp,hi⟩
 ·obtain⟨p,x,hp,rfl,rfl,hx⟩:=hy
  have hx:=hx xs (hs H' kp)
  obtain⟨d,e,rd⟩:=(Reps.keep kp ds r).get' hx
  refine⟨z0n hp,.tup [.int (i:Nat),d],fun _=>by rw[y5j,e];simp,?_⟩
  unfold Rep
  exact⟨p,_,rfl,SqT.of z0o,.cons (by unfold Rep;rfl) (.one (rd.mono (z0n hp)))⟩
def y6Q:D->Option (List D)
 |.lst ds=>some (z0y 0 ds)
 |.scr ns=>some (z0y 0 (ns.map .int))
 |_=>none
def y6i(f:DE):DS->Option (List D):=fun δ=>(f δ).bind y6Q
section
variable{X:Cx}
theorem z9p{elts:List Expr}{x1}{tp p pos:Pos}{l:Expr}{f:DE}(hg:Gl X "enumerate")(hm:X.mg "enumerate" = none)(h:PD X l f)(hs:starEach [l] X.env=[(false,eval l X.env)]:=by rfl):
  PID X (.Tuple elts x1 tp) (.Call (.Name "enumerate" p) [l] [] pos) (y6i f):=(pi_enum hg hm h hs).imp fun σ H R ⟨B,δ,ds,hB,S,q,k⟩=>by
 unfold y6i at q
 cases e:f δ with
 |none=>rw[e]at q;cases q
 |some d=>
  rw[e]at q
  have q':y6Q d=some ds:=q
  refine⟨B,δ,d,hB,S,e,fun v H1 s1 r1=>?_⟩
  unfold y6Q at q'
  split at q'
  ·cases q'
   unfold Rep at r1
   obtain⟨a,xs,rfl,n,h,r⟩:=r1
   refine⟨a,rfl,⟨xs,SqL.of h⟩,k _ H1 s1 fun C hC=>?_⟩
   have na:¬ (B a∨C a):=fun z=>z.elim n fun z=>by rw[hC a z]at h;cases h
   exact y4r (xs:=xs) (fun H' kp=>SqL.of (kp.sl a xs na h)) (Reps.wide hC _ r)
  ·cases q'
   unfold Rep at r1
   obtain⟨a,rfl,h⟩:=r1
   exact⟨a,rfl,⟨_,h.sq⟩,k _ H1 s1 fun C hC=>y4r (fun H' kp=>(kp.sf a _ h).sq) (z2F _)⟩
  ·cases q'
def two(h:D->D->Option (Option D)):D->Option (Option D)
 |.tup [a,b]=>h a b
 |_=>none
def z4a(fc:DS->Option Bool)(fe:DE)(δ:DS):D->D->Option (Option D):=fun a b=>(fc (δ++[some a,some b])).bind fun k=>if k=true then(fe (δ++[some a,some b])).map some else some none
def z6z(fi:DS->Option (List D))(fc:DS->Option Bool)(fe:DE):DS->Option (List D):=fun δ=>(fi δ).bind fun xs=>if xs.length≤sizeLine then z1d (two (z4a fc fe δ)) xs else none
theorem x2d{h:D->D->Option (Option D)}{d:D}{o:Option D}(e:two h d=some o):∃a b,d = .tup [a,b]∧h a b=some o:=by
 unfold two at e
 split at e
 ·exact⟨_,_,rfl,e⟩
 ·cases e
theorem y2m{v1 v2 w1 w2:Option V}:∀{σ:St},((σ++[w1,w2]).set σ.length v1).set (σ.length+1) v2=σ++[v1,v2]
 |[]=>rfl
 |x::r=>congrArg (x :: ·) (y2m (σ:=r))
theorem RepS.snoc2{K:aa}{H:Hp}{B:Addr->Prop}{σ:St}{δ:DS}{d e:D}{v w:V}(S:RepS K H B σ δ)(r:Rep K H B d v)(r':Rep K H B e w):RepS K H B (σ++[some v,some w]) (δ++[some d,some e]):=by
 have:=(S.snoc r).snoc r'
 rw[aT,aT]at this
 exact this
variable{N':List Str}{sc:fO}{iter elt:Expr}{ifs:List Expr}{n:Nat}{x y:Str}{px py tp pos:Pos}{x1:Nat}{fi:DS->Option (List D)}{fc:DS->Option Bool}{fe:DE}
def gTwo(K:aa)(n:Nat):TG:=gTup K 2 (x0J (z2Z n) (x0J (z2Z (n+1)) gNil))
theorem y9L{σ:St}{H:Hp}{Q:VK}(hσ:σ.length=n)(hq:tF X.K (z6z fi fc fe) σ H Q):y7T (tI X.K fi) (gTwo X.K n) (tT X.K fc) (tD X.K fe) 2 σ H Q:=by
 obtain⟨B,δ,ds,hB,Sδ,q,k⟩:=hq
 unfold z6z at q
 cases e1:fi δ with
 |none=>rw[e1]at q;cases q
 |some xs=>
 rw[e1]at q
 have q1:(if xs.length≤sizeLine then z1d (two (z4a fc fe δ)) xs else none)=some ds:=q
 split at q1
 case isFalse=>cases q1
 case isTrue hsz=>
 refine⟨B,δ,xs,hB,Sδ,e1,fun J H1 s1 itw=>fun Da hD=>?_⟩
 have hD0:H Da=none:=s1.free hD
 have it:=itw (fun a=>a=Da) fun a ha=>by rw[ha];exact hD
 have Sw:RepS X.K H1 (fun a=>B a∨a=Da) σ δ:=(Sδ.mono s1).wide fun a ha=>by rw[ha];exact hD
 refine⟨fun i m σ' H'=>m=xs.length - i∧i≤xs.length∧(∃w w',σ'=σ++[w,w'])∧Same H1 H'∧∃ys dn rs,H' Da=some (.lst ys)∧Reps X.K H' (fun a=>B a∨a=Da) dn ys∧ds=dn++rs∧dn.length≤i ∧
  z1d (two (z4a fc fe δ)) (xs.drop i)=some rs,
  ⟨xs.length,by simp,bu _,⟨none,none,rfl⟩,z0n hD,[],[],ds,z0o,.nil,rfl,am _,q1⟩,?_⟩
 rintro i m σ' H' ⟨rfl,hi',⟨w,w',rfl⟩,sm,ys,dn,rs,hys,rys,hds,hln,hrs⟩
 have kp:Keep X.K (fun a=>B a∨a=Da) H1 H':=.same sm
 by_cases hlt:i<xs.length
 ·refine .inr ⟨it.go i H' kp hlt,fun σ'' H''=>(i+1≤xs.length∧(∃w w',σ''=σ++[w,w'])∧Same H1 H''∧∃ys dn rs,H'' Da=some (.lst ys)∧Reps X.K H'' (fun a=>B a∨a=Da) dn ys∧ds=dn++rs∧dn.length≤i+1 ∧
   z1d (two (z4a fc fe δ)) (xs.drop (i+1))=some rs),fun σ'' H'' h=>⟨xs.length - (i+1),by omega,rfl,h⟩,fun xv H2 hy=>?_⟩
  obtain⟨s2,d,hd,rd⟩:=it.yld i H' xv H2 kp hy
  have hdi:=hd hlt
  have hx:xs.drop i=d::xs.drop (i+1):=by
   obtain⟨hl,e⟩:=aO.mp hdi
   rw[bj hl,e]
  rw[hx]at hrs
  obtain⟨o,rs',e2,e3,e4⟩:=z5K hrs
  obtain⟨da,db,ed,e2b⟩:=x2d e2
  subst ed
  unfold Rep at rd
  obtain⟨p,vs,rfl,hsq,rvs⟩:=rd
  unfold Reps at rvs
  obtain⟨va,r1,rfl,ra,rvs⟩:=rvs
  unfold Reps at rvs
  obtain⟨vb,r2,rfl,rb,rvs⟩:=rvs
  unfold Reps at rvs
  subst rvs
  refine⟨p,[va,vb],rfl,hsq,rfl,va,[vb],rfl,vb,[],rfl,rfl,?_⟩
  rw[←hσ,y2m]
  have hB1:InB (fun a=>B a∨a=Da) H2:=fun a ha=>ha.elim (fun z=>(((hB.mono s1).mono sm).mono s2) a z) fun z=>⟨_,s2 _ _ (z ▸ hys)⟩
  have S2:RepS X.K H2 (fun a=>B a∨a=Da) (σ++[some va,some vb]) (δ++[some da,some db]):=((Sw.mono sm).mono s2).snoc2 ra rb
  have hl2:ys.length<sizeLine:=by
   have:=rys.length
   omega
  unfold z4a at e2b
  cases ec:fc (δ++[some da,some db])with
  |none=>rw[ec]at e2b;cases e2b
  |some kk=>
   rw[ec]at e2b
   have e2':(if kk=true then(fe (δ++[some da,some db])).map some else some none)=some o:=e2b
   refine⟨_,δ++[some da,some db],kk,hB1,S2,ec,fun H3 s3=>?_⟩
   cases kk with
   |false=>
    rw[if_neg ar]at e2'
    rw[if_neg ar]
    cases e2'
    exact⟨hlt,⟨_,_,rfl⟩,(sm.trans s2).trans s3,ys,dn,rs',s3 _ _ (s2 _ _ hys),(rys.mono s2).mono s3,by rw[hds,e4];rfl,dF hln,e3⟩
   |true=>
    rw[if_pos rfl]at e2'
    rw[if_pos rfl]
    cases ey:fe (δ++[some da,some db])with
    |none=>rw[ey]at e2';cases e2'
    |some y=>
     rw[ey]at e2'
     cases e2'
     refine⟨_,δ++[some da,some db],y,hB1.mono s3,S2.mono s3,ey,fun yv H5 s5 r5=>⟨ys,s5 _ _ (s3 _ _ (s2 _ _ hys)),hl2,?_⟩⟩
     have hu:H5 Da=some (.lst ys):=s5 _ _ (s3 _ _ (s2 _ _ hys))
     refine⟨hlt,⟨_,_,rfl⟩,fun b u hb=>?_,ys++[yv],dn++[y],rs',z0o,?_,by rw[hds,e4,aT];rfl,by rw[aD];simp;omega,e3⟩
     ·rw[z0v (z1s hb hD)]
      exact s5 _ _ (s3 _ _ (s2 _ _ (sm _ _ hb)))
     ·exact Reps.keep (.upd (.inr rfl) (by rw[hu];exact trivial)) _ (((rys.mono s2).mono s3 |>.mono s5).snoc r5)
 ·have e:i=xs.length:=by omega
  subst e
  refine .inl ⟨it.stop _ H' kp (am _),?_⟩
  rw[cD]at hrs
  cases hrs
  rw[aL]at hds
  subst hds
  exact k Da ys H' (s1.trans sm) hD0 hys (rys.anti fun a z=>.inl z)
theorem y0I(hc:X.calm=true)(S:CompScope X.N X.env.scope.names N' 2 sc)(hn:n=X.N.length)(hi:PID X (.Tuple [.Name x px,.Name y py] x1 tp) iter fi)
  (hg:∀s H fp pins E,PG (z0E X N' sc s H fp pins E) (.Tuple [.Name x px,.Name y py] x1 tp) (gTwo X.K n)) (ht:∀s H fp pins E,y9V (z0E X N' sc s H fp pins E) ifs (tT X.K fc)) (he:∀s H fp pins E,PE (z0E X N' sc s H fp pins E) elt (tD X.K fe))
  (hs:∀x,foldedSetIterable iter X.env x=pure x:=by intro _;rfl):PF X (.ListComp elt [⟨.Tuple [.Name x px,.Name y py] x1 tp,iter,ifs,0⟩] sc pos) (z6z fi fc fe):=by
 intro pins s σ H Q I hq
 exact y3T hc S hi ⟨hg,ht,he⟩ hs pins s σ H Q I (y9L (by rw[hn,I.len]) hq)
theorem y8I{X:Cx}{n:Nat}{x y:Str}{px py tp:Pos}{x1}(hc:X.calm=true)(h1:PG X (.Name x px) (z2Z n))(h2:PG X (.Name y py) (z2Z (n+1)))
  (hs:(fG [.Name x px,.Name y py] X.env).map (·.2)=fP (.Name x px) X.env::(fG [.Name y py] X.env).map (·.2):=by rfl) (hs2:(fG [.Name y py] X.env).map (·.2)=fP (.Name y py) X.env::(fG [] X.env).map (·.2):=by rfl)
  (hn:(fG [.Name x px,.Name y py] X.env).length=2:=by rfl) (hst:(fG [.Name x px,.Name y py] X.env).findIdx? (·.1)=none:=by rfl):PG X (.Tuple [.Name x px,.Name y py] x1 tp) (gTwo X.K n):=
 x4G hc (z6X h1 (z6X h2 y8m hs2) hs) hn hst
end
def y3o:D->Option Key
 |.int n=>some (.inl n)
 |.str x=>some (.inr x)
 |_=>none
theorem y3L{K:aa}{H:Hp}{B:Addr->Prop}{d:D}{k:Key}{v:V}(e:y3o d=some k)(r:Rep K H B d v):v=kV k:=by
 unfold y3o at e
 split at e
 ·cases e;unfold Rep at r;exact r
 ·cases e;unfold Rep at r;exact r
 ·cases e
def setK(ks:List Key)(ds:List D)(k:Key)(d:D):List D:=match ks,ds with
 |k'::ks,e::ds=>(if k'=k then d else e)::setK ks ds k d
 |_,_=>[]
def y1q(ks:List Key)(k:Key):Bool:=ks.any fun k'=>decide (k'=k)
def y0Y(ks:List Key)(k:Key):List Key:=if y1q ks k=true then ks else ks++[k]
def y1D(ks:List Key)(ds:List D)(k:Key)(d:D):List D:=if y1q ks k=true then setK ks ds k d else ds++[d]
theorem y2W{k:Key}{kvs:List (Key×V)}{ks:List Key}(e:kvs.map (·.1)=ks):(kvs.any fun kv=>decide (kv.1=k))=y1q ks k:=by
 subst e
 unfold y1q
 rw[cK]
 rfl
theorem y5e{K:aa}{H:Hp}{k:Key}{d:D}{v:V}(td:Tree K H d v []):∀{kvs:List (Key×V)} {ds:List D},Trees K H ds (kvs.map (·.2)) []->Trees K H (setK (kvs.map (·.1)) ds k d) ((kvs.map fun kv=>if kv.1=k then(kv.1,v)else kv).map (·.2)) []
 |[],ds,t=>by
  cases ds with
  |nil=>exact .nil
  |cons e ds=>unfold Trees at t;obtain⟨_,_,_,_,z,_⟩:=t;cases z
 |p::r,[],t=>by obtain⟨z,_⟩:=t;cases z
 |p::r,e::ds,t=>by
  unfold Trees at t
  obtain⟨x,xs,B,C,e1,t1,t2,e2⟩:=t
  cases e1
  obtain⟨rfl,rfl⟩:=List.append_eq_nil_iff.mp e2.symm
  have ih:=y5e (k:=k) td (kvs:=r) t2
  rw[aC,aC,aC]
  unfold setK Trees
  refine⟨_,_,[],[],rfl,?_,ih,rfl⟩
  by_cases h:p.1=k
  ·rw[if_pos h,if_pos h];exact td
  ·rw[if_neg h,if_neg h];exact t1
theorem x3G{k:Key}{v:V}{kvs:List (Key×V)}:(z8t kvs k v).map (·.1)=y0Y (kvs.map (·.1)) k:=by
 unfold z8t y0Y
 rw[y2W (k:=k) (kvs:=kvs) rfl]
 by_cases h:y1q (kvs.map (·.1)) k=true
 ·rw[if_pos h,if_pos h,aJ]
  apply bp
  intro p _
  show(if p.1=k then(p.1,v)else p).1=p.1
  split <;> rfl
 ·rw[if_neg h,if_neg h,aF]
  rfl
theorem x3h{K:aa}{H:Hp}{k:Key}{d:D}{v:V}{kvs:List (Key×V)}{ds:List D}(td:Tree K H d v [])(t:Trees K H ds (kvs.map (·.2)) []):Trees K H (y1D (kvs.map (·.1)) ds k d) ((z8t kvs k v).map (·.2)) []:=by
 unfold z8t y1D
 rw[y2W (k:=k) (kvs:=kvs) rfl]
 by_cases h:y1q (kvs.map (·.1)) k=true
 ·rw[if_pos h,if_pos h]
  exact y5e td t
 ·rw[if_neg h,if_neg h,aF]
  exact t.snoc td
theorem y4x{k:Key}{kvs:List (Key×V)}:(y5h kvs k).isSome=y1q (kvs.map (·.1)) k:=by rw[←z9T];exact y2W rfl
def inK:D->D->Option Bool:=fun x y=>match y with
 |.dct ks _=>(y3o x).map fun k=>y1q ks k
 |_=>none
def x1V(f g:DE):DS->Option Bool:=fun δ=>(f δ).bind fun x=>(g δ).bind fun y=>inK x y
def x2j(f g:DE):DS->Option Bool:=fun δ=>(x1V f g δ).map (!·)
section
variable{X:Cx}{a b o i:Expr}{f g:DE}{pos pos':Pos}
theorem y5o{δ:DS}{c:Bool}(h:x1V f g δ=some c):∃x k ks ds,f δ=some x∧y3o x=some k∧g δ=some (.dct ks ds)∧c=y1q ks k:=by
 unfold x1V at h
 cases e1:f δ with
 |none=>rw[e1]at h;cases h
 |some x=>
  rw[e1]at h
  cases e2:g δ with
  |none=>rw[e2]at h;cases h
  |some y=>
   rw[e2]at h
   have h:inK x y=some c:=h
   unfold inK at h
   split at h
   ·cases e3:y3o x with
    |none=>rw[e3]at h;cases h
    |some k=>rw[e3]at h;cases h;exact⟨x,k,_,_,rfl,e3,rfl,rfl⟩
   ·cases h
theorem pt_din(hu:X.A.units+64<cLine)(ha:PD X a f)(hb:PD X b g)(hm:fH .In b=false:=by rfl):PTD X (.Compare a [.In] [b] pos) (x1V f g):=
 (x5t (pc_din (by omega) ha hb) hm).imp fun σ H Q ⟨B,δ,c,hB,S,q,k⟩=>by
  obtain⟨x,ky,ks,ds,e1,e2,e3,rfl⟩:=y5o q
  refine⟨B,δ,x,hB,S,e1,fun v H1 s1 r1=>⟨B,δ,_,hB.mono s1,S.mono s1,e3,fun w H2 s2 r2=>?_⟩⟩
  unfold Rep at r2
  obtain⟨p,kvs,rfl,n,hp,ek,rs⟩:=r2
  have ev:=y3L e2 r1
  subst ev
  refine⟨p,y5h kvs ky,rfl,DGet.k hp,_,rfl,?_⟩
  rw[y4x,ek]
  exact k H2 (s1.trans s2)
theorem pt_dnin(hu:X.A.units+64<cLine)(ha:PD X a f)(hb:PD X b g)(hm:fH .NotIn b=false:=by rfl):PTD X (.Compare a [.NotIn] [b] pos) (x2j f g):=
 (x5t (y7Y (by omega) ha hb) hm).imp fun σ H Q ⟨B,δ,c,hB,S,q,k⟩=>by
  unfold x2j at q
  cases e0:x1V f g δ with
  |none=>rw[e0]at q;cases q
  |some c0=>
  rw[e0]at q
  cases q
  obtain⟨x,ky,ks,ds,e1,e2,e3,rfl⟩:=y5o e0
  refine⟨B,δ,x,hB,S,e1,fun v H1 s1 r1=>⟨B,δ,_,hB.mono s1,S.mono s1,e3,fun w H2 s2 r2=>?_⟩⟩
  unfold Rep at r2
  obtain⟨p,kvs,rfl,n,hp,ek,rs⟩:=r2
  have ev:=y3L e2 r1
  subst ev
  refine⟨p,y5h kvs ky,rfl,DGet.k hp,_,rfl,?_⟩
  rw[y4x,ek]
  exact k H2 (s1.trans s2)
theorem pn_dnew:PN X (.Dict [] [] pos) (dC (.dct [] [])):=pe_dnewK.imp fun σ H Q ⟨δ,d,S,q,k⟩=>by
 cases q
 intro p hp
 refine k _ _ [p] (z0n hp) ?_ (aw.mpr ⟨fun z=>(nomatch z),be⟩) fun a ha=>?_
 ·unfold Tree
  exact⟨p,[],[],rfl,z0o,rfl,.nil,rfl⟩
 ·rw[aq.mp ha];exact hp
variable{H0:Hp}{B0:Addr->Prop}{fr:Bool}{RX:XR}{x:Str}{px:Pos}{ke e:Expr}
def dput(i:Nat)(fk fv:DE):SS->Option Out:=fun δ=>(fv (z0r δ)).bind fun d=>if d.imm=true then(fk (z0r δ)).bind fun dk=>(match y3o dk,δ[i]? with
 |some k,some (some (.ow (.dct ks ds)))=>if z1t ds=true∧ks.length<sizeLine then some (.nx ((z0t i δ).set i (some (.ow (.dct (y0Y ks k) (y1D ks ds k d))))))else none
 |_,_=>none)else none
theorem y8R{K:aa}{H:Hp}{ds:List D}{xs:List V}{A:List Addr}(t:Trees K H ds xs A)(h:z1t ds=true):Trees K H ds xs []:=Reps.immTree (B:=fun _=>False) ds h (t.rep ds fun _ _ z=>z)
theorem x4S{i:Nat}{fk fv:DE}(hu:X.A.units+64<cLine)(hx:PE X (.Name x px) (y2I i))(hk:PD X ke fk)(hv:PD X e fv)
  (hs:swapsWith e (some (.Subscript (.Name x px) ke pos')) pos.line X.env=pure false:=by rfl):
  PS X (.Assign [.Subscript (.Name x px) ke pos'] e pos) (tS X.K H0 B0 fr RX (dput i fk fv)):=
 PS.imp (ps_dput (by omega) hx hk hv hs) fun D σ H ⟨δ,R,o,rs,q,kk⟩=>by
  unfold dput at q
  cases e1:fv (z0r δ)with
  |none=>rw[e1]at q;cases q
  |some d=>
  rw[e1,aj]at q
  split at q
  case isFalse=>cases q
  case isTrue hi=>
  cases e2:fk (z0r δ)with
  |none=>rw[e2]at q;cases q
  |some dk=>
  rw[e2,aj]at q
  split at q
  case h_2=>cases q
  case h_1 k ks ds e3 ei=>
  split at q
  case isFalse=>cases q
  case isTrue hc=>
  cases q
  obtain⟨v0,ev,t0,nd⟩:=rs.ow i _ ei
  unfold Tree at t0
  obtain⟨a,kvs,A,rfl,ha,ek,ts,eR⟩:=t0
  have ts:=y8R ts hc.1
  refine⟨noB,z0r δ,d,.no,rs.all,e1,fun v H1 s1 r1=>⟨.ref a,ev,noB,z0r δ,dk,.no,rs.all.mono s1,e2,fun kv H2 s2 r2=>?_⟩⟩
  have ekv:=y3L e3 r2
  subst ekv
  subst ek
  have ha2:H2 a=some (.dK kvs):=s2 _ _ (s1 _ _ ha)
  refine⟨a,_,rfl,DPut.k ha2 (by rw[←ah (f:=(·.1))];exact hc.2),?_⟩
  have haR:a∈R i:=by rw[eR];exact af
  have mu:Mut (H2 a):=by rw[ha2];exact trivial
  have td:Tree X.K H2 d v []:=(r1.immTree d hi).mono s2
  have tp:=x3h (k:=k) td (ts.mono (s1.trans s2))
  have P:=rs.rewrite (d':=.dct (y0Y (kvs.map (·.1)) k) (y1D (kvs.map (·.1)) ds k d)) (a:=a) (o:=.dK (z8t kvs k v)) (A':=[a]) (s1.trans s2) ei ev haR (by
   unfold Tree
   exact⟨a,z8t kvs k v,[],rfl,z0o,x3G,Trees.keep (Keep.upd (K:=X.K) (B:=fun x=>x=a) rfl mu).i _ tp fun b hb=>(nomatch hb),rfl⟩) (aw.mpr ⟨fun z=>(nomatch z),be⟩) fun b hb=>by
    rw[aq.mp hb];exact .inl haR
  exact kk σ _ _ P.1 P.2
end
end L2
namespace HT
open PySem PySem.Spec PyProof.Rows
section
end
end HT
namespace L2
open PySem PySem.Spec PyProof.Rows
section
variable{X:Cx}{e st:Expr}{te:TE}{tk:TO}{pos p2:Pos}
def tRev(r:V->Hp->VK->Prop)(te:TE)(tk:TO):TE:=fun σ H Q=>te σ H fun x H1=>tk σ H1 fun k H2=>k=some (-1)∧r x H2 Q
def rRevL(K:aa):V->Hp->VK->Prop:=fun x H Q=>∃a xs,x = .ref a∧SqL K H a xs∧∀p,H p=none->Q (.ref p) (upd H p (.lst xs.reverse))
theorem pe_revL(he:PE X e te)(hk:PO X (some st) tk)(hsub:∀v u,subscripted (.Slice none none (some st) p2) false v u=operate [v,u] (getItem v u):=by intro _ _;rfl):PE X (.Subscript e (.Slice none none (some st) p2) pos) (tRev (rRevL X.K) te tk):=by
 intro pins s σ H Q I h
 refine Subscript_ (thn (he pins s σ H _ I h) fun v s1 ⟨x,H1,I1,r1,q1⟩=>?_)
 refine wpAny_Slice ?_
 rw[evalPart_none]
 refine wpAny_pure (wpAny_pure (thn (hk pins s1 σ H1 _ I1 q1) fun vk s2 ⟨k,H2,I2,pk,ek,q2⟩=>?_))
 subst ek
 obtain⟨a,xs,rfl,hq,q⟩:=q2
 cases r1
 have I4:Inv X pins σ H2 { s2 with heap:=s2.heap.push { cls:=.type "slice",data:=.fields #[.none,.none,vk] } }:=I2.kept (t':=s2.toks) fun b ob q=>Heap.get?_push_of_some _ q
 obtain⟨its,r,pl,hz⟩:=I4.list hq
 have hlen:=r.length
 refine tail_any (ops:=[.ref a,.ref s2.heap.objs.size]) pl.isList.typeIs list_getitem_lookup ?_ (hsub _ _)
 refine wpAny_getItem_list_slice pl.isList (Heap.IsSliceOf.new ..) .none .none pk (by decide) ?_ (by simp only[av] <;> omega)
 rw[PySem.W.krv_pick]
 exact⟨.ref _,_,I4.lnew (t':=s2.toks) (by simpa using r.reverse) (by rw[fu];exact hz),rfl,q _ I4.fresh⟩
theorem Reps.reverse{K:aa}{H:Hp}{B:Addr->Prop}:∀{ds:List D} {xs:List V},Reps K H B ds xs->Reps K H B ds.reverse xs.reverse
 |[],_,h=>by unfold Reps at h;subst h;exact .nil
 |d::ds,_,h=>by
  unfold Reps at h
  obtain⟨x,r,rfl,h1,h2⟩:=h
  rw[br,br]
  exact(Reps.reverse h2).snoc h1
def revLs:D->D->Option (List D)
 |.lst ds,.int k=>if k = -1 then some ds.reverse else none
 |.scr ns,.int k=>if k = -1 then some (ns.map D.int).reverse else none
 |_,_=>none
def x1p(f g:DE):DS->Option (List D):=fun δ=>(f δ).bind fun x=>(g δ).bind fun y=>revLs x y
variable{f g:DE}
theorem pf_revL(he:PD X e f)(hk:PD X st g)(hsub:∀v u,subscripted (.Slice none none (some st) p2) false v u=operate [v,u] (getItem v u):=by intro _ _;rfl):PF X (.Subscript e (.Slice none none (some st) p2) pos) (x1p f g):=
 (pe_revL he (y8q hk) hsub).imp fun σ H Q ⟨B,δ,ds,hB,S,q,k⟩=>by
  unfold x1p at q
  cases e1:f δ with
  |none=>rw[e1]at q;cases q
  |some x=>
  rw[e1,aj]at q
  cases e2:g δ with
  |none=>rw[e2]at q;cases q
  |some y=>
  rw[e2,aj]at q
  unfold revLs at q
  split at q
  case h_3=>cases q
  case h_1 es j=>
   split at q
   case isFalse=>cases q
   case isTrue hj=>
   cases q
   refine⟨B,δ,_,hB,S,e1,fun v H1 s1 r1=>⟨B,δ,_,hB.mono s1,S.mono s1,e2,fun v2 H2 s2 r2=>?_⟩⟩
   unfold Rep at r2
   subst r2
   unfold Rep at r1
   obtain⟨a,xs,rfl,n,hq,rs⟩:=r1
   refine⟨j,rfl,by rw[hj],a,xs,rfl,SqL.of (s2 _ _ hq),fun p hp=>?_⟩
   exact k p _ _ ((s1.trans s2).trans (z0n hp)) ((s1.trans s2).free hp) z0o ((rs.reverse.mono s2).mono (z0n hp))
  case h_2 ns j=>
   split at q
   case isFalse=>cases q
   case isTrue hj=>
   cases q
   refine⟨B,δ,_,hB,S,e1,fun v H1 s1 r1=>⟨B,δ,_,hB.mono s1,S.mono s1,e2,fun v2 H2 s2 r2=>?_⟩⟩
   unfold Rep at r2
   subst r2
   unfold Rep at r1
   obtain⟨a,rfl,hq⟩:=r1
   refine⟨j,rfl,by rw[hj],a,_,rfl,(s2.sf hq).sq,fun p hp=>?_⟩
   exact k p _ _ ((s1.trans s2).trans (z0n hp)) ((s1.trans s2).free hp) z0o (z2F ns).reverse
variable{a b:Expr}
def catLs:D->D->Option (List D)
 |.lst ds,.lst es=>if ds.length+es.length≤sizeLine then some (ds++es)else none
 |_,_=>none
def y4h(f g:DE):DS->Option (List D):=fun δ=>(f δ).bind fun x=>(g δ).bind fun y=>catLs x y
theorem z5x(ha:PD X a f)(hb:PD X b g):PF X (.BinOp a .Add b pos) (y4h f g):=(y6F y7y ha hb).imp fun σ H Q ⟨B,δ,ds,hB,S,q,k⟩=>by
 unfold y4h at q
 cases e1:f δ with
 |none=>rw[e1]at q;cases q
 |some x=>
 rw[e1,aj]at q
 cases e2:g δ with
 |none=>rw[e2]at q;cases q
 |some y=>
 rw[e2,aj]at q
 unfold catLs at q
 split at q
 case h_2=>cases q
 case h_1 xs ys=>
 split at q
 case isFalse=>cases q
 case isTrue hl=>
 cases q
 refine⟨B,δ,_,hB,S,e1,fun v H1 s1 r1=>⟨B,δ,_,hB.mono s1,S.mono s1,e2,fun v2 H2 s2 r2=>?_⟩⟩
 unfold Rep at r1 r2
 obtain⟨p1,vs,rfl,n1,h1,rs1⟩:=r1
 obtain⟨p2,ws,rfl,n2,h2,rs2⟩:=r2
 refine⟨p1,p2,vs,ws,rfl,rfl,s2 _ _ h1,h2,by rw[←rs1.length,←rs2.length];exact hl,fun p hp=>?_⟩
 exact k p _ _ ((s1.trans s2).trans (z0n hp)) ((s1.trans s2).free hp) z0o (((rs1.mono s2).append rs2).mono (z0n hp))
end
section
variable{X:Cx}{o e:Expr}{apos cpos:Pos}
def rLIx(K:aa):V->List V->Hp->VK->Prop:=fun x vs H Q=>∃(a:Addr) (ns:List Int) (i:Int) (j:Nat),x = .ref a∧vs=[.int i]∧SqL K H a (ns.map V.int)∧ns.findIdx? (fun n=>n==i)=some j∧Q (.int (j:Int)) H
theorem y7j:MtR X "list.index" (rLIx X.K):=by
 intro pins s σ H x vs v us Q I rx rv h
 obtain⟨a,ns,i,j,rfl,rfl,hq,hj,q⟩:=h
 cases rx
 obtain⟨u,rfl,ru⟩:=rv.one
 obtain⟨ut,rfl⟩:=ru
 obtain⟨its,r,⟨⟨cls,dct,dat,sl⟩,n,e,c,d,hd⟩,hz⟩:=I.list hq
 have c:cls = .type "list" := c
 have hd:dat = .seq its.toArray n:=hd
 subst c;subst hd
 obtain⟨hjl,hji,hjm⟩:=dz.mp hj
 have hl:ns.length=its.length:=by have:=r.length;simpa using this
 have hj2:j<its.length:=by omega
 rw[sizeLine_eq,ah]at hz
 refine call_meets F.slot_list_index ⟨_,e,rfl⟩ F.entry_list_index (F.args_list_index_2 _ _) (SeqAt.list_indexAt a its.toArray n dct sl (.int i ut) (isI i) j (by simpa using hj2) (by omega) ?_ ?_) ⟨e,?_,?_⟩
 ·obtain⟨t,h2,e2⟩:=y3p r j hj2
  simp[e2,isI]
  simpa using hji
 ·intro m hm hmj
  obtain⟨t,h2,e2⟩:=y3p r m (by omega)
  have:=hjm m hmj
  simp[e2,isI]
  simpa using this
 ·intro y hy
  obtain⟨k,hk,rfl⟩:=fw (show y∈its by simpa using hy)
  obtain⟨t,h2,e2⟩:=y3p r k hk
  rw[e2]
  exact SeqAt.EqAt.int_int _ _ _ _
 ·exact⟨.int (j:Int),H,I.tok _,⟨_,rfl⟩,q⟩
def lixF:D->D->Option D
 |.lst ds,.int i=>(z2d ds).bind fun ns=>(ns.findIdx? (fun n=>n==i)).map fun j=>.int (j:Int)
 |_,_=>none
theorem x1L{f g:DE}(ho:PD X o f)(he:PD X e g)(hbase:fJ o "index" X.env (eval o X.env)=eval o X.env:=by rfl)
  (hfew:((fI cpos (starEach [e] X.env)).all (fun x=>!x.1)&&(fQ cpos (keywordEach [] X.env)).all (fun x=>x.1.isSome)&&decide ([e].length+([]:List fK).length+(if([]:List fK).isEmpty then 0 else 1)<30))=true:=by rfl)
  (hline:(apos.endLine==cpos.line)=true:=by rfl) (hs:starEach [e] X.env=(false,eval e X.env)::starEach [] X.env:=by rfl):
  PD X (.Call (.Attribute o "index" apos) [e] [] cpos) (d2 lixF f g):=
 (y6x PySem.F.plainAttrs_list PySem.F.slot_list_index PySem.F.type_list_index y7j ho (z0M he pa_nil hs) hbase hfew hline hs rfl).imp fun σ H Q ⟨B,δ,d,hB,S,q,k⟩=>by
  obtain⟨x,y,e1,e2,e3⟩:=z5Z q
  unfold lixF at e3
  split at e3
  case h_2=>cases e3
  case h_1 ds i=>
  cases e4:z2d ds with
  |none=>rw[e4]at e3;cases e3
  |some ns=>
  rw[e4,aj]at e3
  cases e5:ns.findIdx? (fun n=>n==i)with
  |none=>rw[e5]at e3;cases e3
  |some j=>
  rw[e5]at e3
  cases e3
  have eds:=z7q e4
  subst eds
  refine⟨B,δ,_,hB,S,e1,fun v H1 s1 r1=>?_⟩
  unfold Rep at r1
  obtain⟨a,xs,rfl,nb,hq,rs⟩:=r1
  have ex:=z9F rs
  subst ex
  refine⟨.inl ⟨rfl,_,SqL.of hq⟩,B,δ,_,hB.mono s1,S.mono s1,e2,fun v2 H2 s2 r2=>?_⟩
  unfold Rep at r2
  subst r2
  exact⟨a,ns,i,j,rfl,rfl,SqL.of (s2 _ _ hq),e5,k _ H2 (s1.trans s2) (by unfold Rep;rfl)⟩
end
section
end
def cntR(lo hi c:Int):Nat:=if lo<hi then((hi - lo - 1) / c+1).toNat else 0
def Itr3(lo c:Int)(n:Nat):It:=⟨fun i _=>i<n,fun i H x H'=>H'=H∧x = .int (lo+(i:Nat)*c),fun i _=>n≤i⟩
theorem y2M{P:dw}{w:fE}{K:aa}{tg:Expr}(it:Addr)(lo c:Int)(n:Nat):Turn P w K tg (Itr3 lo c n) [it] it (fun i h=>IsRangeIter h it (lo+(i:Nat)*c) ((n:Int) - (i:Nat)) c) where
 mem:=by simp
 obj:=fun i h st b hb=>by
  have e:b=it:=by simpa using hb
  subst e
  exact⟨_,st,fun v z=>by
   have z':Data.fields _=Data.cell v:=z
   cases z'⟩
 keep:=fun i h h' st k=>k it (by simp) _ st
 item:=by
  intro X hP hw hK hc i pins s σ H E I hf st hg
  subst hP hw hK
  obtain⟨f0,f1,f2,f3,f4,f5⟩:=hf it (by simp)
  have W:=Walks.range (prog:=X.prog) (w:=X.w) (I.ok.hd hc) it lo c n
  refine W.item i s _ _ hg st fun v h' tk hv st' kk=>?_
  obtain⟨t,rfl⟩:=hv
  have I1:Inv X pins σ H { s with heap:=h',toks:=tk }:=I.turned (fun b o hb e=>kk b o (by simpa using hb) e) f0 f1 f3 f4 f5
  exact⟨_,rfl,x2O (s:={ s with heap:=h',toks:=tk }) (n := "range_iterator") st' rfl rfl (by decide) ⟨.int (lo+(i:Nat)*c),H,I1,⟨t,rfl⟩,⟨rfl,rfl⟩,st',fun b hb=>(hf b hb).1⟩⟩
 done:=by
  intro X hP hw hK hc i pins s σ H E I hf st hg
  subst hP hw hK
  obtain⟨f0,f1,f2,f3,f4,f5⟩:=hf it (by simp)
  exact wpAny_pyNext_range_end (I.ok.hd hc) st (by have:n≤i:=hg;omega) fun h' eb=>⟨rfl,I.turned (t':=s.toks) (fun b o hb e=>eb b o hb e) f0 f1 f3 f4 f5⟩
 self:=fun _ _ _ _ _ st h=>wpAny_pyIter_rangeiter st h
section
theorem Vals.three:∀{x y z:V} {us:List Value},Vals [x,y,z] us->∃u v w,us=[u,v,w]∧RelV x u∧RelV y v∧RelV z w
 |_,_,_,_,.cons r (.cons q (.cons p .nil))=>⟨_,_,_,rfl,r,q,p⟩
def x0s(lo c:Int)(n:Nat):List D:=(ad n).map fun i=>.int (lo+(i:Nat)*c)
theorem x2H{lo c:Int}{n i:Nat}(h:i<n):(x0s lo c n)[i]? = some (.int (lo+(i:Nat)*c)):=by
 unfold x0s
 rw[ay,cI h]
 rfl
theorem y0q{lo c:Int}{n:Nat}:(x0s lo c n).length=n:=by simp[x0s]
theorem x2m{K:aa}{H:Hp}{B:Addr->Prop}{lo c:Int}{n:Nat}:ItD K (Itr3 lo c n) H B (x0s lo c n):=by
 refine⟨fun i H' _ hi=>?_,fun i H' _ hi=>?_,fun i H' x H2 _ y=>?_⟩
 ·rw[y0q]at hi;exact hi
 ·rw[y0q]at hi;exact hi
 ·obtain⟨e,y⟩:=y
  subst e y
  exact⟨.refl _,.int (lo+(i:Nat)*c),fun h=>x2H (by rwa [y0q]at h),rfl⟩
def rng3:Option D->Option D->Option D->Option (List D)
 |some (.int i),some (.int j),some (.int c)=>if -(2 ^ 61)≤i∧i<2 ^ 61∧-(2 ^ 61)≤j∧j<2 ^ 61∧0<c∧c<2 ^ 30 then some (x0s i c (cntR i j c))else none
 |_,_,_=>none
end
def z3Z(c:DS->Option Bool)(b:SS->Option Out):Nat->SS->Option Out
 |0,_=>none
 |n+1,δ=>(c (z0r δ)).bind fun k=>if k=true then(b δ).bind fun o=>(match o with
  |.nx δ'=>z3Z c b n δ'
  |.ct δ'=>z3Z c b n δ'
  |.bk δ'=>some (.nx δ')
  |.rt d=>some (.rt d)
  |.rb d δ'=>some (.rb d δ')
  |.ex c δ'=>some (.ex c δ'))else some (.nx δ)
section
variable{X:Cx}{H0:Hp}{B0:Addr->Prop}{fr:Bool}{RX:XR}{pos:Pos}
theorem y3v{c:Expr}{body:List Stmt}{fc:DS->Option Bool}{g:SS->Option Out}(n:Nat)(hp:PassesOwn (model X.prog X.w) X.A X.env X.xe)(hc:PTD X c fc)(hb:PSs X body (tS X.K H0 B0 fr RX g)):PS X (.While c body [] pos) (tS X.K H0 B0 fr RX (z3Z fc g n)):=
 PS.imp (x2A hp hc hb) fun D σ H ⟨δ,R,o,rs,q,k⟩=>by
  refine⟨fun m σ' H'=>∃δ' R',RS X.K H0 B0 H' σ' δ' R'∧Stp R H R' H'∧z3Z fc g m δ'=some o,⟨n,δ,R,rs,.refl R H,q⟩,?_⟩
  rintro m σ' H' ⟨δ',R',rs',s',q'⟩
  cases m with
  |zero=>cases q'
  |succ m=>
   unfold z3Z at q'
   cases ec:fc (z0r δ')with
   |none=>rw[ec]at q';cases q'
   |some kk=>
    rw[ec,aj]at q'
    refine⟨noB,z0r δ',kk,.no,rs'.all,ec,fun H1 s1=>?_⟩
    have rs1:=rs'.mono s1
    have st1:Stp R H R' H1:=s'.trans (.same s1)
    cases kk with
    |false=>
     rw[if_neg ar]at q'
     cases q'
     exact k σ' H1 R' rs1 st1
    |true=>
     rw[if_pos rfl]at q'
     cases eb:g δ' with
     |none=>rw[eb]at q';cases q'
     |some ob=>
      rw[eb,aj]at q'
      refine⟨fun σ2 H2=>∃δ2 R2,RS X.K H0 B0 H2 σ2 δ2 R2∧Stp R H R2 H2∧z3Z fc g m δ2=some o,fun σ2 H2 z=>⟨m,Nat.lt_succ_self m,z⟩,δ',R',ob,rs1,eb,?_⟩
      cases ob with
      |nx δ2=>exact fun σ3 H3 R3 rs3 s3=>⟨δ2,R3,rs3,st1.trans s3,q'⟩
      |ct δ2=>exact fun σ3 H3 R3 rs3 s3=>⟨δ2,R3,rs3,st1.trans s3,q'⟩
      |bk δ2=>
       cases q'
       exact fun σ3 H3 R3 rs3 s3=>k σ3 H3 R3 rs3 (st1.trans s3)
      |rt d=>
       cases q'
       exact k.back st1
      |rb d δ2=>
       cases q'
       exact k.back st1
      |ex c δ2=>
       cases q'
       exact k.back st1
end
section
variable{X:Cx}{a b:Expr}{f:DE}{pos:Pos}
variable{H0:Hp}{B0:Addr->Prop}{fr:Bool}{RX:XR}{x:Str}{px ap cp:Pos}{e:Expr}
def x0i(i:Nat)(f:DE):SS->Option Out:=fun δ=>(f (z0r δ)).bind fun d=>(match d,δ[i]? with
 |.lst es,some (some (.ow (.lst ds)))=>if ds.length+es.length≤sizeLine then some (.nx ((z0t i δ).set i (some (.ow (.lst (ds++es))))))else none
 |_,_=>none)
theorem y8r{i:Nat}(hx:PE X (.Name x px) (y2I i))(he:PN X e f)(hbase:fJ (.Name x px) "extend" X.env (eval (.Name x px) X.env)=eval (.Name x px) X.env:=by rfl)
  (hfew:((fI cp (starEach [e] X.env)).all (fun x=>!x.1)&&(fQ cp (keywordEach [] X.env)).all (fun x=>x.1.isSome)&&decide ([e].length+([]:List fK).length+(if([]:List fK).isEmpty then 0 else 1)<30))=true:=by rfl)
  (hline:(ap.endLine==cp.line)=true:=by rfl) (hs:starEach [e] X.env=(false,eval e X.env)::starEach [] X.env:=by rfl) (hsw:swapsWith (.Call (.Attribute (.Name x px) "extend" ap) [e] [] cp) none pos.line X.env=pure false:=by rfl):
  PS X (.Expr (.Call (.Attribute (.Name x px) "extend" ap) [e] [] cp) pos) (tS X.K H0 B0 fr RX (x0i i f)):=
 PS.imp (z7K (y6x PySem.F.plainAttrs_list PySem.F.slot_list_extend PySem.F.type_list_extend y9O hx (z0M he pa_nil hs) hbase hfew hline hs rfl) hsw) fun D σ H ⟨δ,R,o,rs,q,k⟩=>by
  unfold x0i at q
  cases e1:f (z0r δ)with
  |none=>rw[e1]at q;cases q
  |some d=>
  rw[e1,aj]at q
  split at q
  case h_2=>cases q
  case h_1 es ds ei=>
  split at q
  case isFalse=>cases q
  case isTrue hl=>
  cases q
  obtain⟨a,xs,A,ev,ha,ts,eR,nd⟩:=rs.top ei
  refine⟨.ref a,ev,.inl ⟨rfl,xs,SqL.of ha⟩,z0r δ,_,rs.all,e1,fun y H2 C s2 t2 nC fC=>?_⟩
  unfold Tree at t2
  obtain⟨b,zs,C',rfl,hb,tz,rfl⟩:=t2
  have nC':=(aw.mp nC).2
  refine⟨a,b,xs,zs,rfl,rfl,s2 _ _ ha,hb,by rw[←ts.length,←tz.length];exact hl,?_⟩
  have hAC:(A++C').Nodup:=bP.mpr ⟨(aw.mp nd).2,nC',fun p hp c hc z=>by
   subst z
   obtain⟨u,q,_⟩:=Trees.held ds ts p hp
   rw[fC p (ae _ hc)]at q;cases q⟩
  have P:=rs.put0 s2 ei ev eR nd ((ts.mono s2).append tz) hAC fun p hp=>(au.mp hp).imp id fun z=>fC p (ae _ z)
  exact k σ _ _ P.1 P.2
end
def insS(x:Int):List Int->List Int
 |[]=>[x]
 |y::r=>if x≤y then x::y::r else y::insS x r
def x3v:List Int->List Int
 |[]=>[]
 |x::r=>insS x (x3v r)
theorem z8k(x:Int):∀l:List Int,(insS x l).Perm (x::l)
 |[]=>.refl _
 |y::r=>by
  unfold insS
  split
  ·exact .refl _
  ·exact((z8k x r).cons y).trans (.swap x y r)
theorem y0X:∀l:List Int,(x3v l).Perm l
 |[]=>.refl _
 |x::r=>(z8k x _).trans ((y0X r).cons x)
theorem z7A{x:Int}:∀{l:List Int},l.Pairwise (· ≤ ·)->(insS x l).Pairwise (· ≤ ·)
 |[],_=>by unfold insS;simp
 |y::r,h=>by
  unfold insS
  split
  ·rename_i hxy
   refine bb.mpr ⟨fun z hz=>?_,h⟩
   rcases ao.mp hz with e | e
   ·omega
   ·have:=(bb.mp h).1 z e
    omega
  ·rename_i hxy
   refine bb.mpr ⟨fun z hz=>?_,z7A (bb.mp h).2⟩
   rcases ao.mp ((z8k x r).mem_iff.mp hz)with e | e
   ·omega
   ·exact(bb.mp h).1 z e
theorem z7M:∀l:List Int,(x3v l).Pairwise (· ≤ ·)
 |[]=>.nil
 |_::r=>z7A (z7M r)
theorem z9c:∀{a b:List Int},a.Perm b->a.Pairwise (· ≤ ·)->b.Pairwise (· ≤ ·)->a=b
 |[],b,p,_,_=>(List.nil_perm.mp p).symm
 |x::a,[],p,_,_=>by have:=p.length_eq;simp at this
 |x::a,y::b,p,ha,hb=>by
  obtain⟨ha1,ha2⟩:=bb.mp ha
  obtain⟨hb1,hb2⟩:=bb.mp hb
  have hxy:x=y:=by
   have h1:x∈y::b:=p.mem_iff.mp af
   have h2:y∈x::a:=p.mem_iff.mpr af
   rcases ao.mp h1 with e | e
   ·exact e
   ·rcases ao.mp h2 with e' | e'
    ·exact e'.symm
    ·have:=ha1 y e'
     have:=hb1 x e
     omega
  subst hxy
  rw[z9c (List.perm_cons x |>.mp p) ha2 hb2]
theorem x1o{a l:List Int}(p:a.Perm l)(h:a.Pairwise (· ≤ ·)):a=x3v l:=z9c (p.trans (y0X l).symm) h (z7M l)
section
end
section
theorem intsV:∀{ns:List Int} {vs:List Value},IntsAre vs ns->Vals (ns.map V.int) vs
 |_,_,.nil=>.nil
 |_,_,.cons n t r=>.cons ⟨t,rfl⟩ (intsV r)
end
section
end
section
end
section
end
def Thr(h:Heap)(e T:Addr)(cls:Value):Prop:=∃oe vs oT ts,h.get? e=some oe∧oe.cls=cls∧oe.data = .fields vs∧vs[1]? = some (.ref T)∧T≠e∧h.get? T=some oT∧oT.data = .fields ts∧ts[3]? = some .none∧oe.dict=none
def Thr0(h:Heap)(e:Addr)(cls:Value):Prop:=∃oe vs,h.get? e=some oe∧oe.cls=cls∧oe.data = .fields vs∧vs[1]? = some .none∧oe.dict=none
structure Gone(S ch:List Addr)(e:Addr)(cls:Value)(h h':Heap):Prop where
 keep:∀b o,b∉S->b∉ch->h.get? b=some o->h'.get? b=some o
 slot:∀b o,b∈S->b∉ch->h.get? b=some o->∃sl,h'.get? b=some { o with slots:=sl }
 there:∀b o,h.get? b=some o->∃o',h'.get? b=some o'
 thr:∃T,h.objs.size≤T∧Thr h' e T cls
section
variable{M:Model}{A:Around}{E:Value->Shared->Prop}{s:Shared}
theorem x2u{o:Obj}{f:Array Value->Array Value}(h:o.dict=none):(Obj.mapFields f o).dict=none:=by
 unfold Obj.mapFields
 split <;> exact h
theorem y5H{base:Heap}{env:Env}{outer:List Env}{L e:Addr}{oe:Obj}{vs:Array Value}{head:Value}{hadNext:Bool}{Q:Unit->Shared->Prop}
  (hfr:A.frames=some (env::outer)) (hl:s.heap.FunFrames base (env::outer)) (hf:env.frame=some L)
  (he:s.heap.get? e=some oe) (hd:oe.data = .fields vs) (hsz:1<vs.size) (hdn:oe.dict=none)
  (h:∀h',Gone (frs (env::outer)) [e] e oe.cls s.heap h'->Q () { s with heap:=h' }):
  wpAny M A (do let a ←frameOf env;let pl ←entryPlaceOf L hadNext;let b ←EntryCells.newEntry head a .none (rawInt L) .none pl;setField (.ref e) 1 b) (fun _ s'=>wpAny M A (setFlight (.ref e) none) Q E s') E s:=by
 have hene:e∉frs (env::outer):=fun hm=>by
  obtain⟨_,o,ho,hnf⟩:=hl.mem hm
  rw[he]at ho;injection ho with ho;subst ho;exact hnf vs hd
 refine wpAny_bind (wpAny_frameOf_fun hfr hl hf fun h₁ hs₁=>?_)
 refine wpAny_bind (wpAny_entryPlaceOf fun pl hpl=>?_)
 unfold EntryCells.newEntry newFields
 refine wpAny_bind (wpAny_newObj_type ?_ (hpl.sizeOk5 _ _ _ _ _))
 have he₁:h₁.get? e=some oe:=(hs₁.2.1 e hene).trans he
 generalize hob:({ cls:=.type "traceback",dict:=none,data:=.fields ([head,.ref L,.none,rawInt L,.none]++(if pl.isEmpty then ai 6 Value.none else pl)).toArray }:Obj)=ob
 have hobd:ob.data = .fields ([head,.ref L,.none,rawInt L,.none]++(if pl.isEmpty then ai 6 Value.none else pl)).toArray:=by rw[←hob]
 have hobf:ob.isFreed=false:=by rw[←hob];rfl
 have he₂:=Heap.get?_push_of_some (h:=h₁) ob he₁
 refine wpAny_setField he₂ hd hsz ?_
 have hTe:h₁.objs.size≠e:=cL (Heap.lt_size he₁)
 have hd₃:=Obj.data_mapFields hd (·.setIfInBounds 1 (Value.ref h₁.objs.size))
 have he₃:=Heap.get?_update_self (Obj.mapFields (·.setIfInBounds 1 (Value.ref h₁.objs.size))) he₂ (Obj.isFreed_of_fields hd₃)
 have hT₃:=(Heap.get?_update_other (h₁.push ob) (Obj.mapFields (·.setIfInBounds 1 (Value.ref h₁.objs.size))) (Ne.symm hTe)).trans (Heap.get?_push_size h₁ hobf)
 unfold setFlight
 refine wpAny_bind (wpAny_field he₃ hd₃ (x:=.ref h₁.objs.size) (by simp[hsz]) ?_)
 rw[if_pos (show(Value.ref h₁.objs.size != Value.none)=true from by simp)]
 refine wpAny_setField hT₃ hobd (by simp only[av,aD,aY,dS] <;> omega) (h _ ?_)
 have keep:∀b o,b≠e->h₁.get? b=some o →
   (((h₁.push ob).update e (Obj.mapFields (·.setIfInBounds 1 (Value.ref h₁.objs.size)))).update h₁.objs.size (Obj.mapFields (·.setIfInBounds 3 ((none:Option Addr).elim Value.none fun f=>rawInt f)))).get? b=some o:=fun b o hbe hb=>by
  have hbT:h₁.objs.size≠b:=cL (Heap.lt_size hb)
  rw[Heap.get?_update_other _ _ hbT,Heap.get?_update_other _ _ (Ne.symm hbe)]
  exact Heap.get?_push_of_some _ hb
 have heF:(((h₁.push ob).update e (Obj.mapFields (·.setIfInBounds 1 (Value.ref h₁.objs.size)))).update h₁.objs.size (Obj.mapFields (·.setIfInBounds 3 ((none:Option Addr).elim Value.none fun f=>rawInt f)))).get? e=some (Obj.mapFields (·.setIfInBounds 1 (Value.ref h₁.objs.size)) oe):=by
  rw[Heap.get?_update_other _ _ hTe];exact he₃
 refine⟨fun b o hb hc e1=>?_,fun b o hb hc e1=>?_,fun b o e1=>?_,h₁.objs.size,?_,?_⟩
 ·exact keep b o (fun z=>hc (by simp[z])) ((hs₁.2.1 b hb).trans e1)
 ·obtain⟨sl,e2⟩:=hs₁.2.2 b o e1
  exact⟨sl,keep b _ (fun z=>hc (by simp[z])) e2⟩
 ·by_cases hb:b=e
  ·exact⟨Obj.mapFields (·.setIfInBounds 1 (Value.ref h₁.objs.size)) oe,by rw[hb];exact heF⟩
  ·obtain⟨sl,e2⟩:=hs₁.2.2 b o e1
   exact⟨_,keep b _ hb e2⟩
 ·rw[hs₁.1]
  exact am _
 ·exact⟨_,_,_,_,heF,Obj.cls_mapFields _ _,hd₃,by simp[hsz],hTe,Heap.get?_update_self _ hT₃ (Obj.isFreed_of_fields (Obj.data_mapFields hobd _)),Obj.data_mapFields hobd _,by first | (simp;done) | (rcases hpl with rfl | ⟨_,_,_,_,_,_,_,rfl⟩ <;> simp),x2u hdn⟩
theorem y6A{base:Heap}{env:Env}{outer:List Env}{L e:Addr}{cls:Value}{Q:Unit->Shared->Prop}
  (hfr:A.frames=some (env::outer)) (hl:s.heap.FunFrames base (env::outer)) (hf:env.frame=some L) (ht:Thr0 s.heap e cls)
  (h:∀h',Gone (frs (env::outer)) [e] e cls s.heap h'->Q () { s with heap:=h' }):wpAny M A (noteFrame (.ref e) env) (fun _ s'=>wpAny M A (setFlight (.ref e) none) Q E s') E s:=by
 obtain⟨oe,vs,he,rfl,hd,h1,hdn⟩:=ht
 unfold noteFrame
 simp only[hf]
 refine wpAny_bind (wpAny_field he hd h1 ?_)
 rw[if_neg (by decide)]
 exact y5H hfr hl hf he hd (bJ.mp h1).1 hdn h
theorem y1W{base:Heap}{env:Env}{outer:List Env}{L e T:Addr}{cls:Value}{Q:Unit->Shared->Prop}
  (hfr:A.frames=some (env::outer)) (hl:s.heap.FunFrames base (env::outer)) (hf:env.frame=some L) (ht:Thr s.heap e T cls)
  (h:∀h',Gone (frs (env::outer)) [e,T] e cls s.heap h'->Q () { s with heap:=h' }):wpAny M A (noteFrame (.ref e) env) (fun _ s'=>wpAny M A (setFlight (.ref e) none) Q E s') E s:=by
 obtain⟨oe,vs,oT,ts,he,rfl,hd,h1,hTe,hT,hdT,h3,hdn⟩:=ht
 unfold noteFrame
 simp only[hf]
 refine wpAny_bind (wpAny_field he hd h1 ?_)
 rw[if_pos (show(Value.ref T != Value.none)=true from by simp)]
 refine wpAny_bind (wpAny_field hT hdT h3 ?_)
 rw[if_neg (show ¬ ((Value.none==rawInt L)=true) from by simp[rawInt])]
 refine wpAny_bind (wpAny_setField hT hdT (bJ.mp h3).1 ?_)
 have other:∀b,b≠T->(s.heap.update T (Obj.mapFields (·.setIfInBounds 3 Value.none))).get? b=s.heap.get? b:=fun b hb=>Heap.get?_update_other _ _ (Ne.symm hb)
 have noRecord:∀b o,s.heap.get? b=some o->(∀vs,o.data≠.fields vs)->b≠T:=fun b o hb hnf q=>by
  rw[q,hT]at hb;injection hb with hb;subst hb;exact hnf ts hdT
 refine y5H hfr (hl.of_keeps fun b o hb hnf=>⟨o,(other b (noRecord b o hb hnf)).trans hb,rfl⟩) hf ((other e (Ne.symm hTe)).trans he) hd (bJ.mp h1).1 hdn fun h' G=>h h' ?_
 refine⟨fun b o hb hc e1=>G.keep b o hb (fun z=>hc (ao.mpr (.inl (aq.mp z)))) ((other b fun z=>hc (by simp[z])).trans e1),fun b o hb hc e1=>G.slot b o hb (fun z=>hc (ao.mpr (.inl (aq.mp z)))) ((other b fun z=>hc (by simp[z])).trans e1),fun b o e1=>?_,?_⟩
 ·by_cases hb:b=T
  ·have e2:(s.heap.update T (Obj.mapFields (·.setIfInBounds 3 Value.none))).get? b=some (Obj.mapFields (·.setIfInBounds 3 Value.none) oT):=by
    rw[hb]
    exact Heap.get?_update_self _ hT (Obj.isFreed_of_fields (Obj.data_mapFields hdT _))
   exact G.there b _ e2
  ·exact G.there b o ((other b hb).trans e1)
 ·obtain⟨T',h1,h2⟩:=G.thr
  exact⟨T',by rwa [Heap.size_after_update]at h1,h2⟩
theorem z9g{env:Env}{e:Value}{Q:Unit->Shared->Prop}(h:wpAny M A (noteFrame e env) (fun _ s'=>wpAny M A (setFlight e none) Q E s') E s):wpAny M A (leaving env e) Q E s:=by
 unfold leaving
 exact wpAny_bind h
end
theorem ObjOk.some{P:dw}{w:fE}{H:Hp}{h:Heap}{a:Addr}{o:HO}(x:ObjOk P w H h a o):∃ob,h.get? a=Option.some ob:=by
 cases q:h.get? a with
 |some ob=>exact⟨ob,rfl⟩
 |none=>
  have y:ObjOk P w H h a o:=x
  induction o with
  |lst xs=>obtain⟨_,_,_,_,e⟩:=x;rw[q]at e;cases e
  |tup xs=>obtain⟨_,_,_,_,e,_⟩:=x;rw[q]at e;cases e
  |dK kvs=>obtain⟨_,_,_,_,_,_,_,e,_⟩:=x;rw[q]at e;cases e
  |dT kvs=>obtain⟨_,_,_,_,_,_,_,e,_⟩:=x;rw[q]at e;cases e
  |set S n=>obtain⟨_,_,_,_,e,_⟩:=x;rw[q]at e;cases e
  |ins C dx fs=>obtain⟨_,_,_,e,_⟩:=x;rw[q]at e;cases e
  |own y=>obtain⟨_,e⟩:=x;rw[q]at e;cases e
  |xd fs=>obtain⟨_,⟨_,_,_,e,_⟩,_⟩:=x;rw[q]at e;cases e
  |met f y=>have e:=x;unfold ObjOk at e;rw[q]at e;cases e
  |rng lo hi=>obtain⟨_,_,_,e⟩:=x;rw[q]at e;cases e
  |frz ob u ih=>have e:=x.1;rw[q]at e;cases e
  |tbl ps=>have e:=x;unfold ObjOk at e;rw[q]at e;cases e
  |ext φ=>obtain⟨_,⟨_,e⟩,_⟩:=x;rw[q]at e;cases e
section
variable{X:Cx}{pins:List (Addr×Obj)}{σ:St}{H:Hp}{s:Shared}
def FpX(X:Cx)(pins:List (Addr×Obj))(H:Hp)(b:Addr):Prop:=
 H b=none∧b≠X.env.locals∧(b∈X.ex∨X.s₀.heap.get? b=none)∧(∀x c,X.env.cells.lookup x=some c->c≠b)∧∀p∈X.pn++pins,p.1≠b
theorem Inv.fpX{H':Hp}{b:Addr}(I:Inv X pins σ H s)(hb:s.heap.get? b=none)(hn:H' b=none):FpX X pins H' b:=by
 refine⟨hn,fun z=>?_,?_,fun x c e z=>?_,fun p hp z=>?_⟩
 ·obtain⟨m,⟨o,_,_,ho,_⟩,_⟩:=I.loc
  rw[←z,hb]at ho
  cases ho
 ·by_cases hx:b∈X.ex
  ·exact .inl hx
  ·refine .inr ?_
   cases q:X.s₀.heap.get? b with
   |none=>rfl
   |some o=>
    obtain⟨o',e⟩:=I.base.there b o q hx
    rw[hb]at e
    cases e
 ·obtain⟨v,o,ho,_⟩:=I.cell x c e
  rw[z,hb]at ho
  cases ho
 ·have:=(I.pin p hp).1
  rw[z,hb]at this
  cases this
theorem Inv.fresh0{b:Addr}(I:Inv X pins σ H s)(hb:s.heap.get? b=none):H b=none:=by
 cases q:H b with
 |none=>rfl
 |some u=>
  obtain⟨o,e⟩:=(I.hok b u q).some
  rw[hb]at e
  cases e
theorem Inv.gone3{ch:List Addr}{h':Heap}(I:Inv X pins σ H s)(gk:∀b o,b∉frs X.stack->b∉ch->s.heap.get? b=some o->h'.get? b=some o)(gs:∀b o,b∈frs X.stack->b∉ch->s.heap.get? b=some o->∃sl,h'.get? b=some { o with slots:=sl })(gt:∀b o,s.heap.get? b=some o->∃o',h'.get? b=some o')(hch:∀b∈ch,FpX X pins H b):Inv X pins σ H { s with heap:=h' }:=by
 have nS:∀b u,H b=some u->b∉frs X.stack:=fun b u q z=>by rw[I.stkFree b z]at q;cases q
 have nC:∀b u,H b=some u->b∉ch:=fun b u q z=>by rw[(hch b z).1]at q;cases q
 have hok:HOk X.prog X.w H h':=fun b u q=>(I.hok b u q).stay (fun c v hc e=>by
  rcases hc with rfl | z
  ·exact gk _ v (nS _ u q) (nC _ u q) e
  ·exact gk c v (nS c _ z) (nC c _ z) e) (fun _ q=>q) fun _ _ q=>q
 have any:∀b o,b∉ch->s.heap.get? b=some o->∃sl,h'.get? b=some { o with slots:=sl }:=fun b o hc q=>by
  by_cases hb:b∈frs X.stack
  ·exact gs b o hb hc q
  ·exact⟨o.slots,gk b o hb hc q⟩
 have new:∀b o,X.s₀.heap.get? b=some o->b∉X.ex->b∉ch:=fun b o q hx z=>by
  rcases (hch b z).2.2.1 with y | y
  ·exact hx y
  ·rw[y]at q;cases q
 have kp:∀b o,b≠X.env.locals->b∉X.fs->b∉ch->s.heap.get? b=some o->h'.get? b=some o:=fun b o hL hb hc q=>
  gk b o (fun z=>(ao.mp (I.stkSub b z)).elim hL hb) hc q
 have old:∀b o,X.s₀.heap.get? b=some o->b≠X.env.locals:=fun b o q=>aH (aK (Heap.lt_size q) I.ok.above)
 have cellK:∀x c,X.env.cells.lookup x=some c->∀v,s.heap.IsCell c v->h'.IsCell c v:=fun x c q v ⟨o,ho,hd⟩=>by
  obtain⟨sl,y⟩:=any c o (fun z=>(hch c z).2.2.2.1 x c q rfl) ho
  exact⟨_,y,hd⟩
 refine⟨I.ok,I.os,I.bare,⟨?_,?_,fun b o q n hx=>I.base.free b o q n hx,?_,I.base.tups,I.base.frzs,I.base.tbls⟩,?_,?_,I.free,I.freeC,?_,hok,I.len⟩
 ·exact fun b o q n hb hx=>kp b o (old b o q) hb (new b o q hx) (I.base.keep b o q n hb hx)
 ·intro b o q n hb hx
  obtain⟨sl,q1⟩:=I.base.slot b o q n hb hx
  obtain⟨sl',q2⟩:=any b _ (new b o q hx) q1
  exact⟨sl',q2⟩
 ·intro b o q hx
  obtain⟨o',q1⟩:=I.base.there b o q hx
  exact gt b o' q1
 ·obtain⟨m,⟨o,es,ep,ho,r⟩,hl⟩:=I.loc
  obtain⟨sl,hL⟩:=any _ o (fun z=>(hch _ z).2.1 rfl) ho
  refine⟨m,⟨_,es,ep,hL,r⟩,fun i x v e1 e2 e3=>?_⟩
  obtain⟨u,r,l⟩:=hl i x v e1 e2 e3
  exact⟨u,r,l.imp id fun⟨k,c,q,z⟩=>⟨k,c,q,cellK x c q _ z⟩⟩
 ·intro x c q
  obtain⟨v,z⟩:=I.cell x c q
  exact⟨v,cellK x c q v z⟩
 ·intro p hp
  obtain⟨q,n,ne,nf,d⟩:=I.pin p hp
  exact⟨kp p.1 p.2 ne nf (fun z=>(hch p.1 z).2.2.2.2 p hp rfl) q,n,ne,nf,d⟩
theorem Inv.gone{ch:List Addr}{e:Addr}{cls:Value}{h':Heap}(I:Inv X pins σ H s)(G:Gone (frs X.stack) ch e cls s.heap h')(hch:∀b∈ch,FpX X pins H b):Inv X pins σ H { s with heap:=h' }:=I.gone3 G.keep G.slot G.there hch
end
def CXE(P:dw)(w:fE):CXT:=fun outer H s E e s'=>∃(ea T:Addr) (cls:Value) (H':Hp),e = .ref ea∧s'.os=s.os∧AllBare s'.gens∧Un (frs outer) [] H H' s.heap s'.heap∧HOk P w H' s'.heap ∧
 s.heap.get? ea=none∧s.heap.get? T=none∧H' ea=none∧H' T=none∧Thr s'.heap ea T cls∧E cls none H'
section
variable{P:dw}{w:fE}{K:aa}{mg:Str->Option Value}{base:Heap}{N:List Str}{qual:Str}{scope:fO}{f:Addr}{cd:Value}{A:Around}{outer:List Env}{s:Shared}{H:Hp}{E:XK}
theorem x0D{pins:List (Addr×Obj)}{σ:St}{H1:Hp}{s1:Shared}{e:Addr}{cls:Value}(I:Inv (y2B (CXE P w) P w K mg base N qual scope f cd A outer s H E) pins σ H1 s1)
  (hf:FpX (y2B (CXE P w) P w K mg base N qual scope f cd A outer s H E) pins H1 e) (ht:Thr0 s1.heap e cls) (hE:E cls none H1):(y2B (CXE P w) P w K mg base N qual scope f cd A outer s H E).xe (.ref e) s1:=by
 refine z9g (y6A (base:=base) (outer:=outer) I.ok.frames I.stack rfl ht fun h' G=>?_)
 have I':=I.gone G fun b hb=>by rw[aq.mp hb];exact hf
 obtain⟨T,hT,th⟩:=G.thr
 have he:s.heap.get? e=none:=by
  rcases hf.2.2.1 with z | z
  ·exact absurd (show e∈([]:List Addr) from z) (by simp)
  ·exact z
 exact⟨e,T,cls,H1,rfl,I'.os,I'.bare,I'.base,I'.hok,he,Heap.get?_none_of_le (aG I.sz hT),hf.1,I.hok.fresh hT,th,hE⟩
end
section
variable{X:Cx}{x:Str}{C:Addr}{B Bn newId nid initId inN:String}{bm bmN:List Value}{np cpos pos:Pos}{e₀:Expr}{te:TE}
def tRaise(te:TE)(R:St->Hp->Prop):TS:=fun _ σ H=>te σ H fun _ H1=>R σ H1
def Want(X:Cx)(C:Addr)(R:St->Hp->Prop):Prop:=∀(pins:List (Addr×Obj)) (σ:St) (H:Hp) (s:Shared) (e:Addr),Inv X pins σ H s->FpX X pins H e->Thr0 s.heap e (.ref C)->R σ H->X.xe (.ref e) s
theorem x3i{R:St->Hp->Prop}(hc:X.calm=true)(hg:Gl X x)(O:OwnCls x C bm newId X.mg X.base)(Fn:ExcBaseFacts Bn newId inN bmN)(hBn:bm.contains (.type Bn)=true)(FB:ExcBaseFacts B nid initId bm)(hW:Want X C R)(h:PE X e₀ te)
  (he:starEach [e₀] X.env=[(false,eval e₀ X.env)]:=by rfl) (hd:(x==("__debug__" : Str))=false:=by decide):PS X (.Raise (some (.Call (.Name x np) [e₀] [] cpos)) none pos) (tRaise te R):=by
 intro pins s σ H D I hq
 obtain⟨tl,N,nm,q,bs,hdct,sn,sub,ab,col,dd,k0,k1,k2,k3,k5,mN,hC,hN,hni,T⟩:=O.obj
 refine wpAny_Raise_call_subU (C:=C) (nm:=nm) (q:=q) (N:=N) (bs:=bs) (bm:=tl) (hdct:=hdct) (sn:=sn) (sub:=sub) (ab:=ab) (col:=col) (dd:=dd) (k0:=k0) (k1:=k1) (k2:=k2) (k3:=k3) (k5:=k5)
  Fn hBn FB (mN:=mN) (T.hasType FB.hasBase) (I.ok.hd hc) (by rw[he];rfl) hni (z7D I hg O.bound ⟨rfl,?_⟩ hd)
 have ha:=(z0M h pa_nil he) cpos pins s σ H (fun vs H1=>match vs with
  |[_]=>R σ H1
  |_=>False) I hq
 rw[he]at ha ⊢
 refine Calls.evalArgs_plain (thn ha fun us s2 ⟨vs,H2,I2,r2,q2⟩=>?_)
 cases r2 with
 |nil=>exact(show False from q2).elim
 |cons r r3=>
  cases r3 with
  |cons _ _=>exact(show False from q2).elim
  |nil=>
   refine⟨rfl,by show 1≤sizeLine;rw[sizeLine_eq];omega,I2.bk _ _ hC,hN.keeps I2.bk,T.keeps I2.bk,fun h' e hm=>?_⟩
   obtain⟨t,he',_⟩:=hm.there
   have I3:Inv X pins σ H2 { s2 with heap:=h' }:=I2.kept (t':=s2.toks) hm.keeps
   exact hW pins σ H2 _ e I3 (I2.fpX hm.new (I2.fresh0 hm.new)) ⟨_,_,he',rfl,rfl,rfl,rfl⟩ q2
variable{H0:Hp}{B0:Addr->Prop}{fr:Bool}{RX:XR}
def z5i(c:Nat)(f:DE):SS->Option Out:=fun δ=>(f (z0r δ)).map fun _=>.ex c δ
theorem s_raise{c:Nat}{f:DE}(hc:X.calm=true)(hg:Gl X x)(O:OwnCls x C bm newId X.mg X.base)(Fn:ExcBaseFacts Bn newId inN bmN)(hBn:bm.contains (.type Bn)=true)(FB:ExcBaseFacts B nid initId bm)(hW:Want X C (RX c))(h:PD X e₀ f)
  (he:starEach [e₀] X.env=[(false,eval e₀ X.env)]:=by rfl) (hd:(x==("__debug__" : Str))=false:=by decide):PS X (.Raise (some (.Call (.Name x np) [e₀] [] cpos)) none pos) (tS X.K H0 B0 fr RX (z5i c f)):=
 PS.imp (x3i hc hg O Fn hBn FB hW h he hd) fun D σ H ⟨δ,R,o,rs,q,k⟩=>by
  unfold z5i at q
  cases e:f (z0r δ)with
  |none=>rw[e]at q;cases q
  |some d=>
   rw[e]at q
   cases q
   exact⟨noB,z0r δ,d,.no,rs.all,e,fun v H1 s1 r1=>k σ H1 R (rs.mono s1) (.same s1)⟩
end
inductive XO where
 |val (d:D) | exc (c:Nat)
def spX(K:aa)(cl:Nat->Value)(m:List D->Option XO):Sp:=fun vs H Q E=>∃ds o,Reps K H noB ds vs∧m ds=some o∧(match o with
 |.val d=>∀v H' A,Same H H'->Tree K H' d v A->A.Nodup->(∀a∈A,H a=none)->Q v H'
 |.exc c=>∀H',Same H H'->E (cl c) none H')
def y4T(np nl:Nat)(g:SS->Option Out):List D->Option XO:=fun ds=>if ds.length=np then(match g (ds.map (fun d=>some (.sh d))++ai nl none)with
 |some (.rt d)=>some (.val d)
 |some (.nx _)=>some (.val .non)
 |some (.ex c _)=>some (.exc c)
 |_=>none)else none
theorem y4a{np nl:Nat}{g:SS->Option Out}{ds:List D}{o:XO}(h:y4T np nl g ds=some o):ds.length=np:=by
 unfold y4T at h
 split at h
 ·assumption
 ·cases h
abbrev defRX(cl:Nat->Value)(E:XK):XR:=fun c _ H1=>E (cl c) none H1
section
variable{P:dw}{w:fE}{K:aa}{mg:Str->Option Value}{base:Heap}
theorem fnX{x qual:Str}{st:Stmt}{f:Addr}{fd:fF}{N ps:List Str}{k np nl:Nat}{g:SS->Option Out}{cl:Nat->Value}(F:Fun K x qual st f fd)(S:FnScope N ps (z0e st))(hnp:ps.length=np)(hN:N.length=np+nl)
  (hbody:∀(cdv:Value) (A:Around) (outer:List Env) (s:Shared) (H:Hp) (E:XK),Room k (A.deeper (envOfC qual (z0e st) s.heap.objs.size f cdv)) →
   PSs (y2B (CXE P w) P w K mg base N qual (z0e st) f cdv A outer s H E) (z1m st) (tS K H noB true (defRX cl E) g)):FnOk P w K mg base (CXE P w) (k+1) f fd ps (spX K cl (y4T np nl g)):=by
 obtain⟨oc,od,kV,doc,pm,an,cdv,ct,osl,rfl,lk,hcd⟩:=F.ex
 refine fn_of lk hcd S (fun vs H Q E h=>?_) fun A outer s H vs Q E hr h=>?_
 ·obtain⟨ds,o,r,e,_⟩:=h
  rw[←r.length,y4a e,hnp]
 ·obtain⟨ds,o,r,e,kk⟩:=h
  refine⟨_,hbody cdv A outer s H E hr,?_⟩
  have hl:=y4a e
  unfold y4T at e
  rw[if_pos hl]at e
  have rs:=z9B (nl:=nl) .no r (N:=N) (by omega)
  split at e
  ·rename_i d' eg
   cases e
   exact⟨_,_,_,rs,eg,fun v H' z _=>by
    obtain⟨A',t,nd,fr⟩:=z.2.1 rfl
    exact kk v H' A' z.1 t nd fr⟩
  ·rename_i δ' eg
   cases e
   exact⟨_,_,_,rs,eg,fun σ' H' R' rs' _=>kk .non H' [] rs'.keep ⟨rfl,rfl⟩ be (fun a z=>nomatch z)⟩
  ·rename_i c δ' eg
   cases e
   exact⟨_,_,_,rs,eg,fun σ' H' R' rs' _=>kk H' rs'.keep⟩
  ·cases e
structure DefX(P:dw)(w:fE)(K:aa)(mg:Str->Option Value)(base:Heap)(k:Nat)(x:Str)(sp:Sp):Prop where
 ok:∃(f:Addr) (fd:fF) (ps:List Str),mg x=some (.ref f)∧bH K (.ref f)=true∧Binds K fd ps []∧FnOk P w K mg base (CXE P w) k f fd ps sp
def XW(X:Cx)(cl:Nat->Value)(RX:XR):Prop:=∀(pins:List (Addr×Obj)) (σ:St) (H:Hp) (s:Shared) (ea T:Addr) (c:Nat),Inv X pins σ H s->FpX X pins H ea->FpX X pins H T->Thr s.heap ea T (cl c)->RX c σ H->X.xe (.ref ea) s
theorem x5u{N:List Str}{qual:Str}{scope:fO}{f:Addr}{cd:Value}{A:Around}{outer:List Env}{s:Shared}{H:Hp}{E:XK}{cl:Nat->Value}:XW (y2B (CXE P w) P w K mg base N qual scope f cd A outer s H E) cl (defRX cl E):=by
 intro pins σ H1 s1 ea T c I fe fT th hE
 refine z9g (y1W (base:=base) (outer:=outer) I.ok.frames I.stack rfl th fun h' G=>?_)
 have I':=I.gone G fun b hb=>by
  rcases ao.mp hb with rfl | hb
  ·exact fe
  ·rw[aq.mp hb];exact fT
 obtain⟨T',hT,th'⟩:=G.thr
 have he:s.heap.get? ea=none:=by
  rcases fe.2.2.1 with z | z
  ·exact absurd (show ea∈([]:List Addr) from z) (by simp)
  ·exact z
 exact⟨ea,T',cl c,H1,rfl,I'.os,I'.bare,I'.base,I'.hok,he,Heap.get?_none_of_le (aG I.sz hT),fe.1,I.hok.fresh hT,th',hE⟩
theorem y0M{N:List Str}{qual:Str}{scope:fO}{f C:Addr}{cd:Value}{A:Around}{outer:List Env}{s:Shared}{H:Hp}{E:XK}{cl:Nat->Value}{c:Nat}(hc:cl c = .ref C):Want (y2B (CXE P w) P w K mg base N qual scope f cd A outer s H E) C (defRX cl E c):=
 fun pins σ H1 s1 e I hf ht hE=>x0D I hf ht (by rw[←hc];exact hE)
end
section
variable{X:Cx}{k:Nat}{f:Addr}{fd:fF}{ps:List Str}{sp:Sp}{cl:Nat->Value}{RX:XR}
theorem run_fnX{pins:List (Addr×Obj)}{σ:St}{H:Hp}{s:Shared}{Q:VK}{us:List Value}{vs:List V}(F:FnOk X.prog X.w X.K X.mg X.base (CXE X.prog X.w) k f fd ps sp)(hr:Room k X.A)(hb:Binds X.K fd ps [])(hW:XW X cl RX)
  (I:Inv X pins σ H s) (r:Vals vs us) (h:sp vs H Q (fun cls _ H'=>∃c,cls=cl c∧RX c σ H')):wpAny (model X.prog X.w) X.A (call (.ref f) us) (EP X pins σ Q) X.xe s:=by
 have hl:us.length=ps.length:=by rw[←r.length];exact F.len _ _ _ _ h
 have hb':=hb s us I.kIn (by rw[aL];exact hl)
 rw[aL]at hb'
 refine wpAny_call (codeAny_mono (F.run X.A X.stack s H ⟨us,[]⟩ us vs Q _ hr I.env0 hb' r h) fun r s' hq=>?_)
 cases r with
 |error e=>
  obtain⟨ea,T,cls,H',rfl,os,bare,un,hok,h1,h2,h3,h4,th,c,rfl,rx⟩:=hq
  exact hW pins σ H' s' ea T c (I.call' os un hok bare fun b hb=>nomatch hb) (I.fpX h1 h3) (I.fpX h2 h4) th rx
 |ok fl=>
  cases fl with
  |ret u=>exact I.after hq
  |next=>exact False.elim hq
  |brk=>exact False.elim hq
  |cont=>exact False.elim hq
end
section
variable{X:Cx}{k:Nat}{sp:Sp}{cl:Nat->Value}{RX:XR}{x:Str}{p pos:Pos}{e:Expr}{es:List Expr}{t:TA}
def tCallX(cl:Nat->Value)(RX:XR)(sp:Sp)(t:TA):TE:=fun σ H Q=>t σ H fun vs H1=>sp vs H1 Q fun cls _ H'=>∃c,cls=cl c∧RX c σ H'
theorem x2T(G:DefX X.prog X.w X.K X.mg X.base k x sp)(hr:Room k X.A)(hg:Gl X x)(hW:XW X cl RX)(ha:PA X (e::es) t)(hdb:(x==("__debug__" : Str))=false:=by decide)
  (he:starEach (e::es) X.env=(false,eval e X.env)::starEach es X.env:=by rfl) (hpl:(fI pos (starEach es X.env)).any (·.1)=false:=by rfl):PE X (.Call (.Name x p) (e::es) [] pos) (tCallX cl RX sp t):=by
 obtain⟨f,fd,ps,hm,hk,hb,ok⟩:=G.ok
 intro pins s σ H Q I h
 refine wpAny_Call_Name_kw (z7D I hg hm ?_ hdb)
 refine eT (h₀:=X.base) I.ok.mod.kin hk (thn (ha pos pins s σ H _ I h) fun us s1 ⟨vs,H1,I1,r,q⟩=>⟨I1.kIn,?_⟩) he hpl
 exact run_fnX ok hr hb hW I1 r q
def tX(K:aa)(RX:XR)(F:DS->Option XO):TE:=fun σ H Q=>∃δ o,RepS K H noB σ δ∧F δ=some o∧(match o with
 |.val d=>∀v H' A,Same H H'->Tree K H' d v A->A.Nodup->(∀a∈A,H a=none)->Q v H'
 |.exc c=>∀H',Same H H'->RX c σ H')
def z6w(m:List D->Option XO)(fl:List DE):DS->Option XO:=fun δ=>(z0m fl δ).bind m
theorem z9n{m:List D->Option XO}{fl:List DE}(G:DefX X.prog X.w X.K X.mg X.base k x (spX X.K cl m))(hr:Room k X.A)(hg:Gl X x)(hW:XW X cl RX)(ha:PAD X (e::es) fl)(hdb:(x==("__debug__" : Str))=false:=by decide)
  (he:starEach (e::es) X.env=(false,eval e X.env)::starEach es X.env:=by rfl) (hpl:(fI pos (starEach es X.env)).any (·.1)=false:=by rfl):PE X (.Call (.Name x p) (e::es) [] pos) (tX X.K RX (z6w m fl)):=
 (x2T G hr hg hW ha hdb he hpl).imp fun σ H Q ⟨δ,o,S,q,kk⟩=>by
  unfold z6w at q
  cases e1:z0m fl δ with
  |none=>rw[e1]at q;cases q
  |some ds=>
   rw[e1,aj]at q
   refine⟨noB,δ,ds,.no,S,e1,fun vs H1 s1 r1=>⟨ds,o,r1,q,?_⟩⟩
   cases o with
   |val d=>exact fun v H' A s' t nd fr=>kk v H' A (s1.trans s') t nd fun a ha=>s1.free (fr a ha)
   |exc c=>exact fun H' s'=>⟨c,rfl,kk H' (s1.trans s')⟩
variable{H0:Hp}{B0:Addr->Prop}{fr:Bool}{F:DS->Option XO}
def retX(F:DS->Option XO):SS->Option Out:=fun δ=>(F (z0r δ)).map fun o=>match o with
 |.val d=>.rt d
 |.exc c=>.ex c δ
def y8i(F:DS->Option XO):SS->Option Out:=fun δ=>(F (z0r δ)).map fun o=>match o with
 |.val _=>.nx δ
 |.exc c=>.ex c δ
theorem s_retX(h:PE X e (tX X.K RX F)):PS X (.Return (some e) pos) (tS X.K H0 B0 fr RX (retX F)):=PS.imp (z8j h) fun D σ H ⟨δ,R,o,rs,q,k⟩=>by
 unfold retX at q
 cases e1:F (z0r δ)with
 |none=>rw[e1]at q;cases q
 |some o1=>
  rw[e1]at q
  refine⟨z0r δ,o1,rs.all,e1,?_⟩
  cases o1 with
  |val d=>
   cases q
   exact fun v H' A s t nd fr'=>k v H' ⟨rs.keep.trans s,fun _=>⟨A,t,nd,fun a z=>rs.keep.free (fr' a z)⟩,fun _=>t.rep d fun a z=>rs.inB.fresh (rs.keep.free (fr' a z))⟩ fun a z=>s.free z
  |exc c=>
   cases q
   exact fun H' s=>k σ H' R (rs.mono s) (.same s)
theorem s_exprX(h:PE X e (tX X.K RX F))(hs:swapsWith e none pos.line X.env=pure false:=by rfl):PS X (.Expr e pos) (tS X.K H0 B0 fr RX (y8i F)):=PS.imp (z7K h hs) fun D σ H ⟨δ,R,o,rs,q,k⟩=>by
 unfold y8i at q
 cases e1:F (z0r δ)with
 |none=>rw[e1]at q;cases q
 |some o1=>
  rw[e1]at q
  refine⟨z0r δ,o1,rs.all,e1,?_⟩
  cases o1 with
  |val d=>
   cases q
   exact fun v H' A s t nd fr'=>k σ H' R (rs.mono s) (Stp.same s)
  |exc c=>
   cases q
   exact fun H' s=>k σ H' R (rs.mono s) (.same s)
end
abbrev Cx.suite(X:Cx)(e:Value):Cx:={ X with A:=X.A.mark (some e),calm:=false,xe:=fun _ _=>False }
section
variable{X:Cx}{pins:List (Addr×Obj)}{σ:St}{H:Hp}{s:Shared}{e:Value}
theorem Cx.Ok.suite(ok:X.Ok)(e:Value):(X.suite e).Ok:=
 ⟨ok.mod,ok.kind,ok.glob,ok.blt,ok.above,ok.inj,ok.has,ok.cab,(fun z=>Bool.noConfusion z),ok.frames,ok.stk,ok.exf,ok.bs,ok.bsz,ok.noex,ok.exfs,ok.funs,ok.frf⟩
theorem Inv.suite(I:Inv X pins σ H s)(e:Value):Inv (X.suite e) pins σ H s:=⟨I.ok.suite e,I.os,I.bare,I.base,I.loc,I.cell,I.free,I.freeC,I.pin,I.hok,I.len⟩
theorem Inv.unsuite(ok:X.Ok)(I:Inv (X.suite e) pins σ H s):Inv X pins σ H s:=⟨ok,I.os,I.bare,I.base,I.loc,I.cell,I.free,I.freeC,I.pin,I.hok,I.len⟩
theorem SP.unsuite{D:Ends}{f:Flow}{s':Shared}(ok:X.Ok)(h:SP (X.suite e) pins D f s'):SP X pins D f s':=by
 cases f with
 |next=>obtain⟨σ',H',I,q⟩:=h;exact⟨σ',H',I.unsuite ok,q⟩
 |brk=>obtain⟨σ',H',I,q⟩:=h;exact⟨σ',H',I.unsuite ok,q⟩
 |cont=>obtain⟨σ',H',I,q⟩:=h;exact⟨σ',H',I.unsuite ok,q⟩
 |ret u=>obtain⟨v,σ',H',I,r,q⟩:=h;exact⟨v,σ',H',I.unsuite ok,r,q⟩
end
theorem y2K{M:Model}{A:Around}{E:Value->Shared->Prop}{s:Shared}{e T:Addr}{cls:Value}{Q:Unit->Shared->Prop}(th:Thr s.heap e T cls)(h:∀h',(∀b o,s.heap.get? b=some o->h'.get? b=some o)->Q () { s with heap:=h' }):wpAny M A (setFlight (.ref e) none) Q E s:=by
 obtain⟨oe,vs,oT,ts,he,_,hd,h1,hTe,hT,hdT,h3,hdn⟩:=th
 unfold setFlight
 refine wpAny_bind (wpAny_field he hd h1 ?_)
 rw[if_pos (show(Value.ref T != Value.none)=true from by simp)]
 refine wpAny_setField hT hdT (bJ.mp h3).1 (h _ fun b o q=>?_)
 by_cases hb:b=T
 ·subst hb
  rw[hT]at q
  cases q
  have e1:=Heap.get?_update_self (Obj.mapFields (·.setIfInBounds 3 ((none:Option Addr).elim Value.none fun f=>rawInt f))) hT (Obj.isFreed_of_fields (Obj.data_mapFields hdT _))
  rw[e1]
  congr 1
  obtain⟨c,d,dt,sl⟩:=oT
  have hdT:dt = .fields ts:=hdT
  subst hdT
  obtain⟨hlt,h3⟩:=bJ.mp h3
  have z:ts.setIfInBounds 3 Value.none=ts:=by
   apply Array.ext_getElem?
   intro i
   by_cases hi:3=i
   ·subst hi
    rw[Array.getElem?_setIfInBounds_self_of_lt hlt,eE hlt,h3]
   ·rw[Array.getElem?_setIfInBounds_ne hi]
  show Obj.mk c d (.fields (ts.setIfInBounds 3 Value.none)) sl=_
  rw[z]
 ·exact(Heap.get?_update_other _ _ (Ne.symm hb)).trans q
section
variable{X:Cx}{cls:Value}{t:TS}
def PH(X:Cx)(hs:List ExceptHandler)(cls:Value)(t:TS):Prop:=∀(pins:List (Addr×Obj)) (s:Shared) (σ:St) (H:Hp) (D:Ends) (ea T:Addr),Inv X pins σ H s->FpX X pins H ea->Thr s.heap ea T cls->t D σ H->wpAny (model X.prog X.w) X.A (handleBy (.ref ea) X.env hs) (SP X pins D) X.xe s
theorem thr_ty{M:Model}{h:Heap}{ea T:Addr}(th:Thr h ea T cls):PySem.W.Looks M h (typeOf (.ref ea)) cls:=by
 obtain⟨oe,vs,oT,ts,he,rfl,_⟩:=th
 exact(PySem.W.Looks.ld he).andThen .now
end
abbrev Cx.tried(X:Cx)(pn:List (Addr×Obj))(xe:Value->Shared->Prop):Cx:={ X with pn:=pn,xe:=xe }
section
variable{X:Cx}{pins pn:List (Addr×Obj)}{xe:Value->Shared->Prop}{σ:St}{H:Hp}{s:Shared}
theorem Cx.Ok.tried(ok:X.Ok):(X.tried pn xe).Ok:=
 ⟨ok.mod,ok.kind,ok.glob,ok.blt,ok.above,ok.inj,ok.has,ok.cab,ok.hd,ok.frames,ok.stk,ok.exf,ok.bs,ok.bsz,ok.noex,ok.exfs,ok.funs,ok.frf⟩
theorem Inv.tried(I:Inv X pins σ H s):Inv (X.tried (X.pn++pins) xe) [] σ H s:=⟨I.ok.tried,I.os,I.bare,I.base,I.loc,I.cell,I.free,I.freeC,fun p hp=>I.pin p (by simpa using hp),I.hok,I.len⟩
theorem Inv.untried{more:List (Addr×Obj)}(ok:X.Ok)(I:Inv (X.tried (X.pn++pins) xe) more σ H s):Inv X pins σ H s:=⟨ok,I.os,I.bare,I.base,I.loc,I.cell,I.free,I.freeC,fun p hp=>I.pin p (au.mpr (.inl hp)),I.hok,I.len⟩
theorem FpX.untried{more:List (Addr×Obj)}{b:Addr}(h:FpX (X.tried (X.pn++pins) xe) more H b):FpX X pins H b:=⟨h.1,h.2.1,h.2.2.1,h.2.2.2.1,fun p hp=>h.2.2.2.2 p (au.mpr (.inl hp))⟩
theorem SP.untried{more:List (Addr×Obj)}{D:Ends}{f:Flow}{s':Shared}(ok:X.Ok)(h:SP (X.tried (X.pn++pins) xe) more D f s'):SP X pins D f s':=by
 cases f with
 |next=>obtain⟨σ',H',I,q⟩:=h;exact⟨σ',H',I.untried ok,q⟩
 |brk=>obtain⟨σ',H',I,q⟩:=h;exact⟨σ',H',I.untried ok,q⟩
 |cont=>obtain⟨σ',H',I,q⟩:=h;exact⟨σ',H',I.untried ok,q⟩
 |ret u=>obtain⟨v,σ',H',I,r,q⟩:=h;exact⟨v,σ',H',I.untried ok,r,q⟩
end
def tryO(gb:SS->Option Out)(gh:Nat->SS->Option Out):SS->Option Out:=fun δ=>(gb δ).bind fun o=>match o with
 |.nx δ'=>some (.nx δ')
 |.ct δ'=>some (.ct δ')
 |.bk δ'=>some (.bk δ')
 |.rt d=>some (.rt d)
 |.rb d δ'=>some (.rb d δ')
 |.ex c δ'=>gh c δ'
section
variable{X:Cx}{H0:Hp}{B0:Addr->Prop}{fr:Bool}{RX:XR}{cl:Nat->Value}{body:List Stmt}{h₀:ExceptHandler}{hs:List ExceptHandler}{pos:Pos}
theorem y4k{g:SS->Option Out}{cls:Value}(hg:∀δ,g δ=none){ks:List ExceptHandler}:PH X ks cls (tS X.K H0 B0 fr RX g):=by
 intro pins s σ H D ea T I fe th ⟨δ,R,o,_,q,_⟩
 rw[hg]at q
 cases q
theorem s_try{gb:SS->Option Out}{gh:Nat->SS->Option Out}(hst:X.stack=X.env::X.outer)(hfr:X.env.frame=some X.env.locals)
  (hb:∀(pn:List (Addr×Obj)) (xe:Value->Shared->Prop) (RX':XR),XW (X.tried pn xe) cl RX'->PSs (X.tried pn xe) body (tS X.K H0 B0 fr RX' gb))
  (hh:∀c,PH X (h₀::hs) (cl c) (tS X.K H0 B0 fr RX (gh c))):PS X (.Try body (h₀::hs) [] [] pos) (tS X.K H0 B0 fr RX (tryO gb gh)):=by
 intro pins s σ H D I ⟨δ,R,o,rs,q,k⟩
 unfold tryO at q
 cases e1:gb δ with
 |none=>rw[e1]at q;cases q
 |some o1=>
  rw[e1,aj]at q
  refine wpAny_Try_except ?_
  have ok:=I.ok
  let XE:Value->Shared->Prop:=fun e s₁=>wpAny (model X.prog X.w) X.A (noteFrame e X.env) (fun _ s₂=>wpAny (model X.prog X.w) X.A (setFlight e none) (fun _ s₃=>wpAny (model X.prog X.w) X.A (handleBy e X.env (h₀::hs)) (SP X pins D) X.xe s₃) X.xe s₂) X.xe s₁
  have hW:XW (X.tried (X.pn++pins) XE) cl (fun c σ' H'=>tS X.K H0 B0 fr RX (gh c) D σ' H'):=by
   intro pins' σ' H' s' ea T c I' fe fT th hR
   have I2:Inv X pins σ' H' s':=I'.untried ok
   have hf2:=ok.frames
   have hs2:=I2.stack
   rw[hst]at hf2 hs2
   refine y1W (base:=X.base) (outer:=X.outer) hf2 hs2 hfr th fun h' G=>?_
   rw[←hst]at G
   have I3:=I2.gone G fun b hb=>by
    rcases ao.mp hb with rfl | hb
    ·exact fe.untried
    ·rw[aq.mp hb];exact fT.untried
   obtain⟨T',_,th'⟩:=G.thr
   exact hh c pins _ σ' H' D ea T' I3 fe.untried th' hR
  have run:=hb (X.pn++pins) XE _ hW [] s σ H D I.tried ⟨δ,R,o1,rs,e1,by
   cases o1 with
   |nx δ'=>cases q;exact k
   |ct δ'=>cases q;exact k
   |bk δ'=>cases q;exact k
   |rt d=>cases q;exact k
   |rb d δ'=>cases q;exact k
   |ex c δ'=>exact fun σ' H' R' rs' s'=>⟨δ',R',o,rs',q,k.back s'⟩⟩
  refine wpAny_mono run (fun f s₁ z=>?_) fun _ _ z=>z
  have z:=z.untried ok
  cases f with
  |next=>exact wpAny_execs_nil z
  |brk=>exact z
  |cont=>exact z
  |ret u=>exact z
end
section
variable{K:aa}{H0 H:Hp}{B0:Addr->Prop}{σ:St}{δ:SS}{R:Nat->List Addr}
def movS(i j:Nat)(d:D)(δ:SS):SS:=((z0t j δ).set j none).set i (some (.ow d))
theorem z9l{i j k:Nat}{d:D}{x:SD}(h:(movS i j d δ)[k]? = some (some x)):(k=i∧x = .ow d∧i<δ.length)∨(k≠i∧k≠j∧δ[k]? = some (some x)∧∀d,x≠.bo j d):=by
 unfold movS at h
 rcases z2n h with⟨e,q,hl⟩ | ⟨hk,q⟩
 ·cases q
  refine .inl ⟨e,rfl,?_⟩
  rw[bY]at hl
  unfold z0t at hl
  rwa [ah]at hl
 ·rcases z2n q with⟨e,q',_⟩ | ⟨hj,q'⟩
  ·cases q'
  ·exact .inr ⟨hk,hj,z4z q'⟩
theorem RS.mov{i j:Nat}{d:D}{v:V}(hij:i≠j)(h:RS K H0 B0 H σ δ R)(t:Tree K H d v (R j))(nd:(R j).Nodup):RS K H0 B0 H (σ.set i (some v)) (movS i j d δ) (y0W (y0W R j []) i (R j)):=by
 have up:∀{k:Nat} {w:V},k≠i->σ[k]? = some (some w)->(σ.set i (some v))[k]? = some (some w):=fun hj e=>by rw[aV (Ne.symm hj)];exact e
 have mem:∀r a,a∈y0W (y0W R j []) i (R j) r->(r=i∧a∈R j)∨(r≠i∧r≠j∧a∈R r):=fun r a z=>by
  by_cases hr:r=i
  ·subst hr;rw[z0V]at z;exact .inl ⟨rfl,z⟩
  ·rw[z1E hr]at z
   by_cases hj:r=j
   ·subst hj;rw[z0V]at z;cases z
   ·rw[z1E hj]at z;exact .inr ⟨hr,hj,z⟩
 refine⟨h.keep,h.inB,by unfold movS z0t;simp[h.len],fun r a z=>?_,fun r a z=>?_,fun r s a z z'=>?_,fun k d' z=>?_,fun k r' d' z=>?_,fun k d' z=>?_⟩
 ·rcases mem r a z with⟨_,z⟩ | ⟨_,_,z⟩ <;> exact h.new _ a z
 ·rcases mem r a z with⟨_,z⟩ | ⟨_,_,z⟩ <;> exact h.held _ a z
 ·rcases mem r a z with⟨h1,z⟩ | ⟨h1,h1',z⟩ <;> rcases mem s a z' with⟨h2,z'⟩ | ⟨h2,h2',z'⟩
  ·rw[h1,h2]
  ·exact absurd (h.disj s j a z' z) h2'
  ·exact absurd (h.disj r j a z z') h1'
  ·exact h.disj r s a z z'
 ·rcases z9l z with⟨_,q,_⟩ | ⟨h1,h2,q,_⟩
  ·cases q
  ·obtain⟨w,e1,r⟩:=h.sh k d' q
   refine⟨w,up h1 e1,r.anti fun a z=>z.imp id fun⟨r,z⟩=>?_⟩
   rcases mem r a z with⟨_,z⟩ | ⟨_,_,z⟩ <;> exact⟨_,z⟩
 ·rcases z9l z with⟨_,q,_⟩ | ⟨h1,h2,q,hn⟩
  ·cases q
  ·obtain⟨w,e1,r⟩:=h.bo k r' d' q
   have hr':r'≠j:=fun e=>hn d' (by rw[e])
   refine⟨w,up h1 e1,r.anti fun a z=>z.imp id fun⟨s,hs,z⟩=>?_⟩
   rcases mem s a z with⟨_,z⟩ | ⟨_,_,z⟩
   ·exact⟨j,Ne.symm hr',z⟩
   ·exact⟨s,hs,z⟩
 ·rcases z9l z with⟨e,q,hl⟩ | ⟨h1,h2,q,_⟩
  ·cases q
   subst e
   rw[z0V]
   exact⟨v,by rw[bQ];simp[←h.len,hl],t,nd⟩
  ·obtain⟨w,e1,t'⟩:=h.ow k d' q
   rw[z1E h1,z1E h2]
   exact⟨w,up h1 e1,t'⟩
end
section
variable{X:Cx}{H0:Hp}{B0:Addr->Prop}{fr:Bool}{RX:XR}{st:Stmt}
def movO(i j:Nat):SS->Option Out:=fun δ=>match δ[j]? with
 |some (some (.ow d))=>some (.nx (movS i j d δ))
 |_=>none
theorem s_mov{i j:Nat}(hij:i≠j)(h:PAsg X st i (y2I j)):PS X st (tS X.K H0 B0 fr RX (movO i j)):=PS.imp h fun D σ H ⟨δ,R,o,rs,q,k⟩=>by
 unfold movO at q
 split at q
 ·rename_i d e
  cases q
  obtain⟨v,e1,t,nd⟩:=rs.ow j d e
  refine⟨v,e1,k _ H _ (rs.mov hij t nd) ⟨fun a o h _=>h,fun r a z=>?_,fun a z=>z⟩⟩
  by_cases hr:r=i
  ·subst hr;rw[z0V]at z;exact .inl ⟨j,z⟩
  ·rw[z1E hr]at z
   by_cases hj:r=j
   ·subst hj;rw[z0V]at z;cases z
   ·rw[z1E hj]at z;exact .inl ⟨r,z⟩
 ·cases q
end
theorem y5p{X:Cx}{H0:Hp}{B0:Addr->Prop}{fr:Bool}{RX:XR}{body:List Stmt}:PSs X body (tS X.K H0 B0 fr RX fun _=>none):=fun _ _ _ _ _ _ ⟨_,_,_,_,e,_⟩=>nomatch e
section
end
def revS:D->Option (List D)
 |.lst ds=>some ds.reverse
 |_=>none
section
end
section
end
section
end
abbrev x2J:List Value:=[.type "ValueError",.type "Exception",.type "BaseException",.type "object"]
theorem y5U{K:aa}{h:Heap}{mg:Str->Option Value}{x:Str}{C:Addr}{bl:List Value}{nid:String}(X:K.In h)(G:h.Ns mainGlobals mg)(ha:aA K mainGlobals x=some (some (.ref C)))(hq:cz K C bl nid=true):OwnCls x C bl nid mg h:=by
 refine⟨dX X G ha,?_⟩
 unfold cz at hq
 cases hk:K.lookup C with
 |none=>rw[hk]at hq;cases hq
 |some ob=>
  rw[hk]at hq
  have hat:=X _ _ hk
  split at hq
  case h_2=>cases hq
  case h_1 od cls sl z=>
   cases z
   split at hq
   case h_2=>cases hq
   case h_1 C1 tl b0 b1 b2 b3 n b5 em es=>
    simp only[aE,beq_iff_eq,cR]at hq
    obtain⟨⟨⟨⟨⟨z1,z2⟩,z3⟩,z4⟩,z5⟩,z6⟩:=hq
    cases cls with
    |mk nm bs mro ns qn hd sn sub ab col del=>
     cases sl with
     |mk l=>
      dsimp only at em es z3 z5 z6
      rw[em,es,z3,z1,z2]at hat
      exact⟨tl,ns,nm,qn,bs,hd,sn,sub,ab,col,od,b0,b1,b2,b3,b5,_,hat,.of_isNs (PySem.W.isNs_of_in X z5),PySem.W.nsMap_none_of_in X z5 z6,PySem.W.tail_of_in X z4⟩
section
variable{X:Cx}{x:Str}{C:Addr}{np cpos pos:Pos}{e₀:Expr}{H0:Hp}{B0:Addr->Prop}{fr:Bool}{RX:XR}
theorem y0F{c:Nat}{f:DE}(hc:X.calm=true)(hg:Gl X x)(O:OwnCls x C x2J "ValueError.__new__" X.mg X.base)(hW:Want X C (RX c))(h:PD X e₀ f)
  (he:starEach [e₀] X.env=[(false,eval e₀ X.env)]:=by rfl) (hd:(x==("__debug__" : Str))=false:=by decide):PS X (.Raise (some (.Call (.Name x np) [e₀] [] cpos)) none pos) (tS X.K H0 B0 fr RX (z5i c f)):=
 s_raise hc hg O PySem.F.excBase_ValueError (by decide) PySem.F.excBase_ValueError hW h he hd
end
def valO:Option XO->Option D
 |some (.val d)=>some d
 |_=>none
def y1O(m:List D->Option XO)(fl:List DE):DE:=fun δ=>valO (z6w m fl δ)
section
variable{X:Cx}{k:Nat}{cl:Nat->Value}{x:Str}{p pos:Pos}{e:Expr}{es:List Expr}
theorem xw_no:XW X cl noX:=fun _ _ _ _ _ _ _ _ _ _ _ h=>h.elim
theorem y4d{m:List D->Option XO}{fl:List DE}(G:DefX X.prog X.w X.K X.mg X.base k x (spX X.K cl m))(hr:Room k X.A)(hg:Gl X x)(ha:PAD X (e::es) fl)(hdb:(x==("__debug__" : Str))=false:=by decide)
  (he:starEach (e::es) X.env=(false,eval e X.env)::starEach es X.env:=by rfl) (hpl:(fI pos (starEach es X.env)).any (·.1)=false:=by rfl):PN X (.Call (.Name x p) (e::es) [] pos) (y1O m fl):=
 (z9n (RX:=noX) G hr hg xw_no ha hdb he hpl).imp fun σ H Q ⟨δ,d,S,q,kk⟩=>by
  unfold y1O at q
  cases e1:z6w m fl δ with
  |none=>rw[e1]at q;cases q
  |some o=>
   rw[e1]at q
   cases o with
   |exc c=>cases q
   |val d'=>
    cases q
    exact⟨δ,.val d,S,e1,kk⟩
end
section
variable{X:Cx}{pins:List (Addr×Obj)}{σ:St}{H:Hp}{s:Shared}
theorem Inv.adopt{a:Addr}{u:HO}(I:Inv X pins σ H s)(fa:FpX X pins H a)(new:ObjOk X.prog X.w (upd H a u) s.heap a u):Inv X pins σ (upd H a u) s:=by
 have ne:∀b w,H b=some w->b≠a:=fun b w q z=>by rw[z,fa.1]at q;cases q
 have up:∀b w,H b=some w->upd H a u b=some w:=fun b w q=>by rw[z0v (ne b w q)];exact q
 have dn:∀b,b≠a->H b=none->upd H a u b=none:=fun b hb q=>by rw[z0v hb];exact q
 refine⟨I.ok,I.os,I.bare,⟨I.base.keep,I.base.slot,fun b o q n hx=>dn b (fun z=>?_) (I.base.free b o q n hx),I.base.there,fun b xs q=>up b _ (I.base.tups b xs q),fun b o w q=>up b _ (I.base.frzs b o w q),fun b ps q=>?_⟩,I.loc,I.cell,dn _ (Ne.symm fa.2.1) I.free,fun x c q=>dn c (fa.2.2.2.1 x c q) (I.freeC x c q),fun p hp=>?_,fun b w q=>?_,I.len⟩
 ·rcases fa.2.2.1 with y | y
  ·exact hx (z ▸ y)
  ·rw[z,y]at q;cases q
 ·obtain⟨more,q'⟩:=I.base.tbls b ps q
  exact⟨more,up b _ q'⟩
 ·obtain⟨e1,e2,e3⟩:=I.pin p hp
  exact⟨e1,dn p.1 (fa.2.2.2.2 p hp) e2,e3⟩
 ·by_cases hb:b=a
  ·subst hb
   rw[z0o]at q
   cases q
   exact new
  ·rw[z0v hb]at q
   exact(I.hok b w q).stay (fun _ _ _ e=>e) (fun c z=>up c _ z) fun c xs z=>up c _ z
theorem y0l{M:Model}{A:Around}{E:Value->Shared->Prop}{i:Nat}{x:Str}{pos:Pos}{Q:Unit->Shared->Prop}(I:Inv X pins σ H s)(hN:X.N.Nodup)(hi:X.N[i]? = some x)(hk:X.env.scope.names.lookup x=some .local)
  (h:∀s',Inv X pins (σ.set i none) H s'->Q () s'):wpAny M A (do bindName X.env x .none;unbindBehindTheSuite X.env x pos) Q E s:=by
 obtain⟨m,hn,hl⟩:=id I.loc
 have hcl:(X.env.scope.kind == .class||(X.env.scope.kind == .module&&X.env.locals != X.env.globals))=false:=by rw[I.ok.kind];rfl
 refine wpAny_nameGoes_keeps hk hn hcl fun g v hg hs=>h _ ?_
 have old:∀b o,X.s₀.heap.get? b=some o->b≠X.env.locals:=fun b o q=>aH (aK (Heap.lt_size q) I.ok.above)
 refine⟨I.ok,I.os,I.bare,⟨fun b o q n hb hx=>(hs.2 b (old b o q)).trans (I.base.keep b o q n hb hx),fun b o q n hb hx=>?_,I.base.free,fun b o q hx=>?_,I.base.tups,I.base.frzs,I.base.tbls⟩,⟨_,hg,fun j y w e1 e2 e3=>?_⟩,fun y c q=>?_,I.free,I.freeC,fun p hp=>?_,fun b w q=>?_,by simpa using I.len⟩
 ·obtain⟨sl,q1⟩:=I.base.slot b o q n hb hx
  exact⟨sl,(hs.2 b (old b o q)).trans q1⟩
 ·obtain⟨o',q1⟩:=I.base.there b o q hx
  exact⟨o',(hs.2 b (old b o q)).trans q1⟩
 ·have hji:j≠i:=fun z=>by
   subst z
   rw[bQ]at e2
   simp only[if_true]at e2
   split at e2 <;> cases e2
  rw[aV (Ne.symm hji)]at e2
  obtain⟨u',r',q⟩:=hl j y w e1 e2 e3
  refine⟨u',r',?_⟩
  have hyx:y≠x:=fun z=>hji (y0a hN e1 (z ▸ hi))
  rcases q with⟨k,q⟩ | ⟨k,c,q,z⟩
  ·exact .inl ⟨k,by simp[hyx,q]⟩
  ·exact .inr ⟨k,c,q,z.sameBut hs (I.cne y c q)⟩
 ·obtain⟨w',z⟩:=I.cell y c q
  exact⟨w',z.sameBut hs (I.cne y c q)⟩
 ·obtain⟨q,n,ne,nf,d⟩:=I.pin p hp
  exact⟨(hs.2 p.1 ne).trans q,n,ne,nf,d⟩
 ·refine(I.hok b w q).stay (fun c o hc e=>(hs.2 c fun z=>?_).trans e) (fun _ z=>z) fun _ _ z=>z
  subst z
  rcases hc with z | z
  ·rw[←z,I.free]at q;cases q
  ·rw[I.free]at z;cases z
end
def tAs(i:Nat)(C:Addr)(t:TS):TS:=fun D σ H=>∀a,H a=none->t ⟨fun σ' H'=>D.nx (σ'.set i none) H',D.rt,fun σ' H'=>D.bk (σ'.set i none) H',fun σ' H'=>D.ct (σ'.set i none) H'⟩ (σ.set i (some (.ref a))) (upd H a (.ext (isX a C)))
section
variable{X:Cx}{x n:Str}{C Ca:Addr}{np hpos:Pos}{b₀:Stmt}{suite:List Stmt}{rest:List ExceptHandler}{t:TS}{i:Nat}
theorem ph_as(hg:Gl X x)(hm:X.mg x=some (.ref C))(hx:bR X.K (.ref Ca) (.ref C)=some true)(hN:X.N.Nodup)(hi:X.N[i]? = some n)(hk:X.env.scope.names.lookup n=some .local)(hb:∀e,PSs (X.suite e) (b₀::suite) t)(hdb:(x==("__debug__" : Str))=false:=by decide):
  PH X (.ExceptHandler (some (.Name x np)) (some n) (b₀::suite) hpos::rest) (.ref Ca) (tAs i Ca t):=by
 intro pins s σ H D ea T I fe th h
 refine wpAny_handleBy_cons (codeAny_handlers_test (z7D (I.suite (.ref ea)) hg hm ?_ hdb)) (by intro q;cases q)
 refine(PySem.W.exm_one I.kIn (thr_ty th) hx).here ?_
 obtain⟨oe,vs,oT,ts,he,hc,hd,_,_,_,_,_,hdn⟩:=id th
 refine codeAny_handlers_suite_as (y2K th fun h' kp=>?_)
 have I1:Inv X pins σ H { s with heap:=h' }:=I.kept (t':=s.toks) kp
 have hO:ObjOk X.prog X.w (upd H ea (.ext (isX ea Ca))) h' ea (.ext (isX ea Ca)):=by
  refine⟨⟨oe,kp _ _ he,hc,hdn,by unfold PySem.W.notCls;rw[hd]⟩,⟨oe,kp _ _ he⟩,fun h1 h2 z k=>?_⟩
  obtain⟨o,z1,z2⟩:=z
  exact⟨o,k o z1,z2⟩
 have I2:=I1.adopt fe hO
 refine y0A I2 hN hi (.inl hk) (v:=.ref ea) rfl (fun s2 I3=>?_) (.inr hk)
 refine wpAny_mono (hb (.ref ea) pins s2 _ _ _ (I3.suite (.ref ea)) (h ea fe.1)) (fun f s3 q=>?_) fun _ _ z=>z.elim
 have q:=q.unsuite I.ok
 cases f with
 |next=>obtain⟨σ',H',J,q⟩:=q;exact y0l J hN hi hk fun s4 J4=>⟨_,H',J4,q⟩
 |brk=>obtain⟨σ',H',J,q⟩:=q;exact y0l J hN hi hk fun s4 J4=>⟨_,H',J4,q⟩
 |cont=>obtain⟨σ',H',J,q⟩:=q;exact y0l J hN hi hk fun s4 J4=>⟨_,H',J4,q⟩
 |ret u=>obtain⟨v,σ',H',J,r,q⟩:=q;exact y0l J hN hi hk fun s4 J4=>⟨v,_,H',J4,r,q⟩
end
section
variable{K:aa}{H0 H:Hp}{B0:Addr->Prop}{σ:St}{δ:SS}{R:Nat->List Addr}
theorem RS.unset{i:Nat}(h:RS K H0 B0 H σ δ R):RS K H0 B0 H (σ.set i none) (δ.set i none) R:=by
 have gs:∀{j:Nat} {y:SD},(δ.set i none)[j]? = some (some y)->j≠i∧δ[j]? = some (some y):=fun {j y} e=>by
  rcases z2n e with⟨_,q,_⟩ | q
  ·cases q
  ·exact q
 have up:∀{j:Nat} {w:V},j≠i->σ[j]? = some (some w)->(σ.set i none)[j]? = some (some w):=fun hj e=>by rw[aV (Ne.symm hj)];exact e
 refine⟨h.keep,h.inB,by simp[h.len],h.new,h.held,h.disj,fun j d z=>?_,fun j r d z=>?_,fun j d z=>?_⟩
 ·obtain⟨hj,q⟩:=gs z
  obtain⟨v,e,r⟩:=h.sh j d q
  exact⟨v,up hj e,r⟩
 ·obtain⟨hj,q⟩:=gs z
  obtain⟨v,e,r⟩:=h.bo j r d q
  exact⟨v,up hj e,r⟩
 ·obtain⟨hj,q⟩:=gs z
  obtain⟨v,e,r⟩:=h.ow j d q
  exact⟨v,up hj e,r⟩
def unO(i:Nat):Out->Option Out
 |.nx δ=>some (.nx (δ.set i none))
 |.bk δ=>some (.bk (δ.set i none))
 |.ct δ=>some (.ct (δ.set i none))
 |.rt d=>some (.rt d)
 |.rb d δ=>some (.rb d (δ.set i none))
 |.ex _ _=>none
def y7H(i:Nat)(x:Str)(g:SS->Option Out):SS->Option Out:=fun δ=>(g (δ.set i (some (.sh (.exc x))))).bind (unO i)
theorem PH.imp{X:Cx}{hs:List ExceptHandler}{cls:Value}{t t':TS}(h:PH X hs cls t)(w:∀D σ H,t' D σ H->t D σ H):PH X hs cls t':=fun pins s σ H D ea T I fe th q=>h pins s σ H D ea T I fe th (w D σ H q)
theorem as_tS{i:Nat}{x:Str}{Ca:Addr}{fr:Bool}{RX:XR}{g:SS->Option Out}(hx:aA K mainGlobals x=some (some (.ref Ca)))(hb:z4W K Ca=true):∀D σ H,tS K H0 B0 fr RX (y7H i x g) D σ H->tAs i Ca (tS K H0 B0 fr RX g) D σ H:=by
 rintro D σ H ⟨δ,R,o,rs,q,k⟩ a ha
 unfold y7H at q
 cases e1:g (δ.set i (some (.sh (.exc x))))with
 |none=>rw[e1]at q;cases q
 |some o1=>
  rw[e1,aj]at q
  have sm:Same H (upd H a (.ext (isX a Ca))):=z0n ha
  have nb:¬ (B0 a∨∃r,a∈R r):=fun z=>by
   obtain⟨o',q'⟩:=rs.inAll a z
   rw[ha]at q';cases q'
  have rs1:=(rs.mono sm).setSh (i:=i) (d:=.exc x) (v:=.ref a) (by unfold Rep;exact⟨a,Ca,rfl,nb,z0o,hx,hb⟩)
  refine⟨_,R,o1,rs1,e1,?_⟩
  have k:=k.back (Stp.same sm)
  cases o1 with
  |nx δ'=>cases q;exact fun σ' H' R' rs' s'=>k _ H' R' rs'.unset s'
  |bk δ'=>cases q;exact fun σ' H' R' rs' s'=>k _ H' R' rs'.unset s'
  |ct δ'=>cases q;exact fun σ' H' R' rs' s'=>k _ H' R' rs'.unset s'
  |rt d=>cases q;exact k
  |rb d δ'=>cases q;exact fun v σ' H' R' A2 rs' s'=>k v _ H' R' A2 rs'.unset s'
  |ex c δ'=>cases q
end
def z6J(L N:List Str):D->Option D
 |.exc x=>if N.contains x=true then some (.bl (L.contains x))else none
 |_=>none
section
variable{X:Cx}{e:Expr}{f:DE}{y:Str}{p p2 pos:Pos}{L N:List Str}
theorem pe_gl{x:Str}{C:Addr}(hg:Gl X x)(hm:X.mg x=some (.ref C))(hd:(x==("__debug__" : Str))=false:=by decide):PE X (.Name x pos) (tC (.ref C)):=fun _ _ _ H _ I h=>z7D I hg hm ⟨.ref C,H,I,rfl,h⟩ hd
theorem x3K{w:V}{c:Value}(hw:RelV w c)(hu:∀u,RelV w u->u=c):z3w X (.builtin "isinstance") (fun xs H Q=>∃B x v b,xs=[v,w]∧Rep X.K H B (.exc x) v∧(∀C,aA X.K mainGlobals x=some (some (.ref C))->aN X.K (.ref C) c=some b)∧Q (.bl b) H):=by
 intro pins s σ H xs us Q I r h
 obtain⟨B,x,v,b,rfl,rv,hk,q⟩:=h
 obtain⟨u,w',rfl,r1,r2⟩:=vals2 r
 have e:=hu w' r2
 subst e
 unfold Rep at rv
 obtain⟨a,C,rfl,_,hq,hn,hx⟩:=rv
 cases r1
 obtain⟨o,ie⟩:=x4Q I hq
 exact bc (y5w hx) I.kIn ie (hk C hn) (fun z=>nomatch z) fun tk=>⟨.bl b,H,I.tok tk,rfl,q⟩
theorem rel_ref{C:Addr}:∀u,RelV (.ref C) u->u = .ref C:=fun _ r=>r
theorem rel_ty{T:String}:∀u,RelV (.ty T) u->u = .type T:=fun _ r=>r
theorem x5r{w:V}{c:Value}(hw:RelV w c)(hu:∀u,RelV w u->u=c)(hc:PE X (.Name y p2) (tC w))(hk:∀x,x∈N->∀C,aA X.K mainGlobals x=some (some (.ref C))->aN X.K (.ref C) c=some (L.contains x))(hg:Gl X "isinstance")(hm:X.mg "isinstance" = none)(h:PD X e f)
  (he:starEach [e,.Name y p2] X.env=[(false,eval e X.env),(false,eval (.Name y p2) X.env)]:=by rfl) (he2:starEach [.Name y p2] X.env=[(false,eval (.Name y p2) X.env)]:=by rfl):PD X (.Call (.Name "isinstance" p) [e,.Name y p2] [] pos) (d1 (z6J L N) f):=
 (z7a (x3K hw hu) hg hm boot_isinstance (z0M h (z0M hc pa_nil he2) (by rw[he,he2])) (by decide) (by decide) (by rw[he,he2]) (by rw[he2];rfl)).imp fun σ H Q ⟨B,δ,d,hB,S,q,k⟩=>by
  unfold d1 at q
  cases e1:f δ with
  |none=>rw[e1]at q;cases q
  |some d'=>
   rw[e1,aj]at q
   unfold z6J at q
   split at q
   ·rename_i x
    split at q
    ·rename_i hn
     cases q
     exact⟨B,δ,_,hB,S,e1,fun v H1 s1 r1=>⟨B,x,v,_,rfl,r1,hk x (aR.mp hn),k _ H1 s1 rfl⟩⟩
    ·cases q
   ·cases q
theorem z6m{C:Addr}(hy:Gl X y)(hmy:X.mg y=some (.ref C))(hk:∀x,x∈N->∀B,aA X.K mainGlobals x=some (some (.ref B))->aN X.K (.ref B) (.ref C)=some (L.contains x))(hg:Gl X "isinstance")(hm:X.mg "isinstance" = none)(h:PD X e f)
  (he:starEach [e,.Name y p2] X.env=[(false,eval e X.env),(false,eval (.Name y p2) X.env)]:=by rfl) (he2:starEach [.Name y p2] X.env=[(false,eval (.Name y p2) X.env)]:=by rfl) (hd:(y==("__debug__" : Str))=false:=by decide):PD X (.Call (.Name "isinstance" p) [e,.Name y p2] [] pos) (d1 (z6J L N) f):=
 x5r (w:=.ref C) (c:=.ref C) rfl rel_ref (pe_gl hy hmy hd) hk hg hm h he he2
theorem y3H{T:String}(hy:Gl X y)(hmy:X.mg y=none)(hv:fL y=some (.type T))(hk:∀x,x∈N->∀B,aA X.K mainGlobals x=some (some (.ref B))->aN X.K (.ref B) (.type T)=some (L.contains x))(hg:Gl X "isinstance")(hm:X.mg "isinstance" = none)(h:PD X e f)
  (he:starEach [e,.Name y p2] X.env=[(false,eval e X.env),(false,eval (.Name y p2) X.env)]:=by rfl) (he2:starEach [.Name y p2] X.env=[(false,eval (.Name y p2) X.env)]:=by rfl) (hn:y ≠ "__name__" := by decide) (hd:(y==("__debug__" : Str))=false:=by decide):PD X (.Call (.Name "isinstance" p) [e,.Name y p2] [] pos) (d1 (z6J L N) f):=
 x5r (w:=.ty T) (c:=.type T) rfl rel_ty (y8V (v:=.ty T) hy hmy hv rfl hn hd) hk hg hm h he he2
end
theorem y0e{P:Str->Prop}{c:Str}{r:List Str}(h:P c)(hr:∀x,x∈r->P x):∀x,x∈c::r->P x:=fun x hx=>by
 rcases ao.mp hx with z | z
 ·rw[z];exact h
 ·exact hr x z
theorem j1{P:Str->Prop}:∀x,x∈([]:List Str)->P x:=fun _ h=>nomatch h
section
variable{X:Cx}{H0:Hp}{B0:Addr->Prop}{fr:Bool}{RX:XR}{x n xn:Str}{C Ca:Addr}{np hpos:Pos}{b₀:Stmt}{suite:List Stmt}{rest:List ExceptHandler}{g:SS->Option Out}{i:Nat}
theorem x1S(hn:aA X.K mainGlobals xn=some (some (.ref Ca)))(hxb:z4W X.K Ca=true)(hg:Gl X x)(hm:X.mg x=some (.ref C))(hx:bR X.K (.ref Ca) (.ref C)=some true)(hN:X.N.Nodup)(hi:X.N[i]? = some n)(hk:X.env.scope.names.lookup n=some .local)(hb:∀e,PSs (X.suite e) (b₀::suite) (tS X.K H0 B0 fr RX g))(hdb:(x==("__debug__" : Str))=false:=by decide):
  PH X (.ExceptHandler (some (.Name x np)) (some n) (b₀::suite) hpos::rest) (.ref Ca) (tS X.K H0 B0 fr RX (y7H i xn g)):=PH.imp (ph_as hg hm hx hN hi hk hb hdb) (as_tS hn hxb)
end
def tNs(K:aa)(f:DS->Option (List D)):TA:=fun σ H Q=>∃δ ds,RepS K H noB σ δ∧f δ=some ds∧∀vs H' A,Same H H'->Trees K H' ds vs A->A.Nodup->(∀a∈A,H a=none)->Q vs H'
abbrev PAN(X:Cx)(es:List Expr)(fl:List DE):Prop:=PA X es (tNs X.K (z0m fl))
theorem Trees.len{K:aa}{H:Hp}:∀{ds:List D} {xs:List V} {A:List Addr},Trees K H ds xs A->ds.length=xs.length
 |[],_,_,h=>by unfold Trees at h;rw[h.1];rfl
 |d::ds,_,_,h=>by
  unfold Trees at h
  obtain⟨x,r,C,C',rfl,_,h2,_⟩:=h
  simp[Trees.len h2]
section
variable{X:Cx}{e:Expr}{es:List Expr}{pos:Pos}
theorem x0r:PAN X [] []:=pa_nil.imp fun σ H Q ⟨δ,ds,S,q,k⟩=>by
 cases q
 exact k [] H [] (.refl H) ⟨rfl,rfl⟩ be (fun a z=>nomatch z)
theorem y5a{f:DE}{fl:List DE}(ha:PN X e f)(hr:PAN X es fl)(hs:starEach (e::es) X.env=(false,eval e X.env)::starEach es X.env:=by rfl):PAN X (e::es) (f::fl):=(z0M ha hr hs).imp fun σ H Q ⟨δ,ds,S,q,k⟩=>by
 obtain⟨x,xs,e1,e2,rfl⟩:=z6g q
 refine⟨δ,x,S,e1,fun v H1 A s1 t1 nd1 f1=>⟨δ,xs,S.mono s1,e2,fun vs H2 C s2 t2 nd2 f2=>?_⟩⟩
 refine k (v::vs) H2 (A++C) (s1.trans s2) ?_ ?_ fun a ha=>?_
 ·unfold Trees
  exact⟨v,vs,A,C,rfl,t1.mono s2,t2,rfl⟩
 ·refine bP.mpr ⟨nd1,nd2,fun a ha b hb z=>?_⟩
  subst z
  obtain⟨o,q',_⟩:=t1.held x a ha
  rw[f2 a hb]at q';cases q'
 ·rcases au.mp ha with z | z
  ·exact f1 a z
  ·exact s1.free (f2 a z)
theorem y7Z{fl:List DE}(h:PAN X es fl)(hl:fl.length≤1000:=by decide):PN X (.List es pos) (mkL (z0m fl)):=(y5l h).imp fun σ H Q ⟨δ,d,S,q,k⟩=>by
 unfold mkL at q
 cases r:z0m fl δ with
 |none=>rw[r]at q;cases q
 |some ds=>
  rw[r]at q
  cases q
  refine⟨δ,ds,S,r,fun vs H1 A s1 t1 nd fa=>⟨?_,fun p hp=>?_⟩⟩
  ·rw[←t1.len,z2T r]
   exact cM (z8c hl)
  ·have sp:=z0n (o:=.lst vs) hp
   refine k (.ref p) _ (p::A) (s1.trans sp) ?_ (aw.mpr ⟨fun z=>?_,nd⟩) fun a ha=>?_
   ·unfold Tree
    exact⟨p,vs,A,rfl,z0o,t1.mono sp,rfl⟩
   ·obtain⟨o,q',_⟩:=Trees.held ds t1 p z
    rw[hp]at q';cases q'
   ·rcases ao.mp ha with z | z
    ·rw[z];exact s1.free hp
    ·exact fa a z
variable{H0:Hp}{B0:Addr->Prop}{a:Expr}
def y9i(δ:SS)(i:Nat):Option D:=match δ[i]? with
 |some (some (.ow d))=>some d
 |some (some (.sh d))=>if d.imm=true then some d else none
 |_=>none
def ret2(i j:Nat):SS->Option Out:=fun δ=>match y9i δ i,y9i δ j with
 |some d,some e=>some (.rt (.lst [d,e]))
 |_,_=>none
theorem x3d{K:aa}{H:Hp}{σ:St}{δ:SS}{R:Nat->List Addr}{i:Nat}{d:D}(rs:RS K H0 B0 H σ δ R)(h:y9i δ i=some d):∃v A,σ[i]? = some (some v)∧Tree K H d v A∧A.Nodup∧∀a∈A,a∈R i:=by
 unfold y9i at h
 split at h
 ·rename_i d' e
  cases h
  obtain⟨v,e1,t,nd⟩:=rs.ow i _ e
  exact⟨v,R i,e1,t,nd,fun a z=>z⟩
 ·rename_i d' e
  split at h
  ·rename_i hi
   cases h
   obtain⟨v,e1,r⟩:=rs.sh i _ e
   exact⟨v,[],e1,r.immTree _ hi,be,(fun a z=>nomatch z)⟩
  ·cases h
 ·cases h
end
section
end
def repLs:D->D->Option (List D)
 |.lst ds,.int k=>if(0≤k∧k≤1000000)∧ds.length*k.toNat≤sizeLine then some (ai k.toNat ds).flatten else none
 |_,_=>none
def dRep(f g:DE):DS->Option (List D):=fun δ=>(f δ).bind fun x=>(g δ).bind fun y=>repLs x y
theorem Reps.rep{K:aa}{H:Hp}{B:Addr->Prop}{ds:List D}{xs:List V}(h:Reps K H B ds xs):∀n:Nat,Reps K H B (ai n ds).flatten (ai n xs).flatten
 |0=>(show Reps K H B [] [] by unfold Reps;rfl)
 |n+1=>by
  rw[bn,bn,bB,bB]
  exact h.append (Reps.rep h n)
def dIxX(F:DS->Option XO)(g:DE):DS->Option XO:=fun δ=>match F δ with
 |some (.val d)=>(g δ).bind fun y=>(ixD d y).bind fun z=>if z.imm=true then some (.val z)else none
 |some (.exc c)=>some (.exc c)
 |none=>none
section
variable{X:Cx}{a b:Expr}{pos:Pos}{f g:DE}
theorem pf_rep(ha:PD X a f)(hb:PD X b g):PF X (.BinOp a .Mult b pos) (dRep f g):=(y6F op_rep ha hb).imp fun σ H Q ⟨B,δ,ds,hB,S,q,k⟩=>by
 unfold dRep at q
 cases e1:f δ with
 |none=>rw[e1]at q;cases q
 |some x=>
 rw[e1,aj]at q
 cases e2:g δ with
 |none=>rw[e2]at q;cases q
 |some y=>
 rw[e2,aj]at q
 unfold repLs at q
 split at q
 case h_2=>cases q
 case h_1 xs n=>
 split at q
 case isFalse=>cases q
 case isTrue hl=>
 cases q
 refine⟨B,δ,_,hB,S,e1,fun v H1 s1 r1=>⟨B,δ,_,hB.mono s1,S.mono s1,e2,fun v2 H2 s2 r2=>?_⟩⟩
 unfold Rep at r2
 subst r2
 unfold Rep at r1
 obtain⟨p1,vs,rfl,n1,h1,rs1⟩:=r1
 refine⟨p1,n,vs,rfl,rfl,s2 _ _ h1,by omega,by omega,by rw[←rs1.length];exact hl.2,fun p hp=>?_⟩
 exact k p _ _ ((s1.trans s2).trans (z0n hp)) ((s1.trans s2).free hp) z0o (((rs1.mono s2).rep _).mono (z0n hp))
end
end L2
namespace PySem
open Sem (wp)
theorem y3r:typeLookup (.type "dict") "__len__" = pure (some (.builtin "dict.__len__")):=by rw[typeLookup_type,builtinLookup_eq_fast];kernel_rfl
section
variable{K:Type}[DecidableEq K]{prog:dw}{w:fE}{knd:KeyKind prog w K}{A:Around}{E:Value->Shared->Prop}{s:Shared}
theorem z5m{d:Addr}{kvs:List (K×Value)}{ep:Nat}{Q:List Value->Shared->Prop}(hh:A.in1.handled=none)(hd:(d==sysModules)=false)(hm:s.heap.DictAt knd d kvs ep)(hn:kvs.length≤sizeLine)
  (hQ:∀s' acc,Moved [] (fun a b=>b=a) s s'->ItemsOf (fun i v=>∃k x,kvs[i]? = some (k,x)∧knd.is k v=true) acc kvs.length->Q acc.toList s'):wpAny (model prog w) A (collect (.ref d)) Q E s:=by
 have hlt:(d:Nat)<s.heap.objs.size:=hm.lt_size
 have hSd:s.heap.objs.size≠d:=fun e=>bS _ (e ▸ hlt)
 unfold collect
 refine wpAny_bind (wpAny_runValue (codeAny_builtin F.entry_proto_collect ?_))
 rw[Around.under_plainId F.plain_proto_collect _]
 show wpAny _ A.in1 (newList [] >>= fun l=>again (.builtin "list.__iadd__" ⟨[l,.ref d],[]⟩)) _ _ s
 refine wpAny_bind (wpAny_newObj_type ?_)
 refine wpAny_pure ⟨plainId_quiet F.plain_list_iadd _,codeAny_builtin F.entry_list_iadd ?_⟩
 rw[Around.under_plainId F.plain_list_iadd _]
 have hm1:=hm.push { cls:=.type "list",data:=.seq ([]:List Value).toArray }
 have hT1:({ s with heap:=s.heap.push { cls:=.type "list",data:=.seq ([]:List Value).toArray } }:Shared).TypeIs (.ref d) "dict" := hm1.dictOf.typeIs
 have h1:Builtin.List.listSameRef (.ref s.heap.objs.size) (.ref d)=false:=by simp[Builtin.List.listSameRef,hSd]
 show wpAny _ A.in1 (Builtin.List.listExtendWith (.ref s.heap.objs.size) (.ref d) (.ref s.heap.objs.size)) _ _ _
 unfold Builtin.List.listExtendWith
 refine wpAny_bind (wpAny_typeOf hT1 ?_)
 rw[if_neg (by rw[h1];decide)]
 refine wpAny_bind (wpAny_pyIter_dict hd hm1 ?_)
 refine wpAny_bind (wpAny_holding ?_)
 unfold Builtin.List.listLengthHint
 have hm2:=hm1.push { cls:=.type "dict_keyiterator",data:=.fields #[.ref d,.int 0 0,.int kvs.length 0,.int ep 0] }
 have hT2:=hm2.dictOf.typeIs (s:={ s with heap:=(s.heap.push { cls:=.type "list",data:=.seq ([]:List Value).toArray }).push { cls:=.type "dict_keyiterator",data:=.fields #[.ref d,.int 0 0,.int kvs.length 0,.int ep 0] } })
 refine wpAny_bind (wpAny_specialOf hT2 y3r ?_)
 (generalize hid:("dict.__len__" : String)=id0;(fail_if_success (clear hid id0));wp_delta;rw[show splitId id0=some ("dict", "__len__") from by subst hid;decide +kernel];subst hid)
 refine wpAny_bind (wpAny_isInstance (b:=true) hT2 (by rw[isSubtype_type];kernel_rfl) ?_)
 show wpAny _ A.in1 (typeOf (Value.ref d) >>= _) _ _ _
 refine wpAny_bind (wpAny_typeOf hT2 ?_)
 refine wpAny_pure ?_
 show wpAny _ A.in1 (rule "list.extend.makes-room" >>= fun _=>Builtin.List.listTouch (.ref s.heap.objs.size) >>= fun _=>
  again (.builtin "list.extend.loop" ⟨[.ref s.heap.objs.size,.ref (s.heap.push { cls:=.type "list",data:=.seq ([]:List Value).toArray }).objs.size,.ref s.heap.objs.size],[]⟩)) _ _ _
 refine wpAny_bind (wpAny_rule ?_)
 obtain⟨hA,eA⟩:∃h:Heap,h=s.heap.push { cls:=.type "list",data:=.seq ([]:List Value).toArray }:=⟨_,rfl⟩
 obtain⟨hB,eB⟩:∃h:Heap,h=hA.push { cls:=.type "dict_keyiterator",data:=.fields #[.ref d,.int 0 0,.int kvs.length 0,.int ep 0] }:=⟨_,rfl⟩
 have sA:hA.objs.size=s.heap.objs.size+1:=by rw[eA];simp[Heap.push]
 have hne:d≠hA.objs.size:=aH (aK hlt (by rw[sA];exact dP _))
 have W:=(Walks.dictKeys (A:=A.in1) (prog:=prog) (w:=w) (knd:=knd) hh hA.objs.size d hne kvs ep).toS
 have hIt:hB.IsKeyIter hA.objs.size d 0 kvs.length ep:=⟨_,by rw[eB];exact Heap.get?_push_size _ rfl,rfl,rfl⟩
 have hDt:hB.DictAt knd d kvs ep:=by rw[eB,eA];exact hm2
 have hS₁:hB.get? s.heap.objs.size=some { cls:=.type "list",data:=.seq ([]:List Value).toArray }:=by rw[eB,eA];exact Heap.get?_push_of_some _ (Heap.get?_push_size _ rfl)
 have hSf:s.heap.objs.size∉[hA.objs.size,d]:=fun hm=>by
  rcases ao.mp hm with z | z
  ·omega
  ·exact hSd (aq.mp z)
 rw[←eA,←eB]
 refine wpAny_bind ?_
 show wpAny _ A.in1 (updateSeq s.heap.objs.size (·.push .none) >>= fun _=>updateSeq s.heap.objs.size (·.pop)) _ _ _
 refine wpAny_bind (wpAny_updateSeq hS₁ rfl ?_)
 have hS₂:=Heap.get?_update_self (Obj.mapSeq (·.push Value.none)) hS₁ rfl
 refine wpAny_updateSeq hS₂ rfl ?_
 have hS₃:=Heap.get?_update_self (Obj.mapSeq (·.pop)) hS₂ rfl
 have oth:∀b o,b≠s.heap.objs.size->hB.get? b=some o->((hB.update s.heap.objs.size (Obj.mapSeq (·.push Value.none))).update s.heap.objs.size (Obj.mapSeq (·.pop))).get? b=some o:=
  fun b o hb e=>(Heap.get?_update_other _ _ (Ne.symm hb)).trans ((Heap.get?_update_other _ _ (Ne.symm hb)).trans e)
 refine wpAny_pure ⟨plainId_quiet F.plain_extend_loop _,codeAny_extend_loopS W hn _ hSf _ kvs.length 0 _ _ _ rfl (bu _)
  (W.frame 0 ({ s with heap:=hB }:Shared) _ s.toks ⟨hIt,hDt⟩ (am _) fun b hb o e=>oth b o (fun h=>hSf (h ▸ hb)) e) hS₃ (ItemsOf.nil _) fun s' acc' c' hmv hS' hacc=>?_⟩
 show wpAny _ A (load s.heap.objs.size >>= _) _ _ s'
 refine wpAny_bind (wpAny_load hS' ?_)
 refine wpAny_pure (hQ s' acc' ⟨fun b o _ e=>?_,hmv.gens,hmv.drawn,hmv.os,hmv.toks⟩ hacc)
 have hb:(b:Nat)<s.heap.objs.size:=Heap.lt_size e
 refine hmv.heap b o (fun z=>?_) (oth b o (aH hb) (by rw[eB,eA];exact Heap.get?_push_of_some _ (Heap.get?_push_of_some _ e)))
 rcases ao.mp z with z | z
 ·exact aH hb z
 ·exact aH (aK hb (by rw[sA];exact dP _)) (aq.mp z)
end
end PySem
namespace L2
open PySem PySem.Spec PyProof.Rows
theorem x1C:∀{vs:List Value} {ns:List Int},vs.length=ns.length->(∀(j:Nat) (v:Value) (n:Int),vs[j]? = some v->ns[j]? = some n->∃t:Tok,v=Value.int n t)->IntsAre vs ns
 |[],[],_,_=>.nil
 |[],_::_,h,_=>by cases h
 |_::_,[],h,_=>by cases h
 |v::vs,n::ns,h,hs=>by
  obtain⟨t,rfl⟩:=hs 0 v n rfl rfl
  exact .cons n t (x1C (by simpa using h) fun j v n e1 e2=>hs (j+1) v n (by simpa using e1) (by simpa using e2))
section
variable{prog:dw}{w:fE}{A:Around}{E:Value->Shared->Prop}{s:Shared}
theorem y3x{d:Addr}{kvs:List (Key×Value)}{ep:Nat}{ns:List Int}{Q:Value->Shared->Prop}(hh:A.handled=none)(hd:(d==sysModules)=false)(hm:s.heap.DictAt (z1k prog w) d kvs ep)(hk:kvs.map (·.1)=ns.map Sum.inl)(h64:ns.length<64)
  (h:∀(h1 h':Heap) (tk:Nat) (out:List Value) (e:Nat) (ns':List Int),(∀b o',s.heap.get? b=some o'->h1.get? b=some o')->(∀b o',h1.get? b=some o'->h'.get? b=some o')->h'.get? h1.objs.size=some { cls:=.type "list",data:=.seq out.toArray e }->IntsAre out ns'->ns'.Perm ns->ns'.Pairwise (· ≤ ·)->Q (.ref h1.objs.size) { s with heap:=h',toks:=tk }):
  wpAny (model prog w) A (call (.builtin "sorted") [.ref d]) Q E s:=by
 have hl:kvs.length=ns.length:=by rw[←ah (f:=(·.1)),hk,ah]
 refine Calls.call_function_entry kind_sorted plain_sorted entry_sorted (args_sorted1 _) ?_
 unfold Builtin.«sorted»
 refine wpAny_bind (m:=checkCount "sorted" 1 1 _) (wpAny_pure ?_)
 refine wpAny_bind (z5m hh hd hm (by rw[sizeLine_eq];omega) fun s1 acc mv hit=>?_)
 have hI:IntsAre acc.toList ns:=by
  refine x1C (by rw[bE,hit.1,hl]) fun j v n e1 e2=>?_
  obtain⟨k,x,e3,e4⟩:=hit.2 j v (by rw[←e1];simp)
  have e5:(kvs.map (·.1))[j]? = some k:=by rw[ay,e3];rfl
  rw[hk,ay,e2]at e5
  cases e5
  rcases z0R (show y3f (Sum.inl n) v=true from e4)with⟨i,t,z1,z2⟩ | ⟨y,t,z1,z2⟩
  ·cases z1;exact⟨t,z2⟩
  ·cases z1
 have es:=Moved.eq_with mv
 refine wpAny_bind (wpAny_newList ?_)
 have hoL:(s1.heap.push (seqObj "list" acc.toList.toArray 0)).get? s1.heap.objs.size=some (seqObj "list" acc.toList.toArray 0):=Heap.get?_push_size _ rfl
 show wpAny _ _ _ _ _ { s1 with heap:=s1.heap.push (seqObj "list" acc.toList.toArray 0) }
 have h64':acc.toList.length<64:=by rw[bE,hit.1,hl];exact h64
 refine wpAny_bind (wpAny_holding (wpAny_call_entry slot_list_sort ⟨_,hoL,rfl⟩ entry_list_sort (list_sort_tree hoL hI h64' fun out ns' a1 a2 a3=>⟨_,rfl,?_⟩) (args_list_sort _)))
 obtain⟨e,he⟩:=sortedHeap_at (out:=out) hoL
 have fin:=h s1.heap _ s1.toks out.toList e ns' (fun b o' hb=>mv.heap b o' (fun z=>nomatch z) hb) (fun b o' hb=>?_) (by simpa[seqObj] using he) a1 a2 a3
 ·refine wpAny_pure ⟨_,rfl,?_⟩
  rw[es]
  exact fin
 ·have hlt:b<s1.heap.objs.size:=Heap.lt_size hb
  rw[sortedHeap_old (aH hlt) (by rw[size_push'];exact cS hlt)]
  exact Heap.get?_push_of_some _ hb
end
section
variable{X:Cx}
theorem y1T(hc:X.calm=true):z3w X (.builtin "sorted") (fun xs H Q=>∃(p:Addr) (kvs:List (Key×V)) (ns:List Int),xs=[.ref p]∧H p=some (.dK kvs)∧kvs.map (·.1)=ns.map Sum.inl∧ns.length<64∧∀l,H l=none->Q (.ref l) (upd H l (.lst ((x3v ns).map V.int)))):=by
 intro pins s σ H xs us Q I r h
 obtain⟨p,kvs,ns,rfl,hq,hk,h64,q⟩:=h
 obtain⟨u,rfl,rx⟩:=z6O r
 cases rx
 obtain⟨_,hs,vs,rel,dd⟩:=dk_of I.hok hq
 obtain⟨ep,da⟩:=dd.dictAt
 refine y3x (I.ok.hd hc) hs da (rel.keys.symm.trans hk) h64 fun h1 h' tk out e ns' k1 k2 ho hi hp hs'=>?_
 have es:=x1o hp hs'
 subst es
 have I1:Inv X pins σ H { s with heap:=h1 }:=I.kept (t':=s.toks) k1
 refine⟨.ref h1.objs.size,_,Inv.laid (s:={ s with heap:=h1 }) (t':=tk) I1 k2 (am _) (show ObjOk X.prog X.w _ h' _ (.lst ((x3v ns).map V.int)) from⟨?_,out,e,intsV hi,ho⟩),rfl,q _ (I1.hok.fresh (am _))⟩
 rw[ah,hp.length_eq,sizeLine_eq]
 omega
def z5y:List Key->Option (List Int)
 |[]=>some []
 |.inl n::r=>(z5y r).map fun ns=>n::ns
 |.inr _::_=>none
theorem z8U:∀{ks:List Key} {ns:List Int},z5y ks=some ns->ks=ns.map Sum.inl
 |[],_,h=>by cases h;rfl
 |.inl n::r,_,h=>by
  unfold z5y at h
  cases e:z5y r with
  |none=>rw[e]at h;cases h
  |some ns=>
   rw[e]at h
   cases h
   rw[aC,←z8U e]
 |.inr _::_,_,h=>by cases h
def y2h:List D->Option (List D)
 |[.dct ks _]=>(z5y ks).bind fun ns=>if ns.length<64 then some ((x3v ns).map .int)else none
 |_=>none
theorem x2Z{K:aa}:OpL K (fun xs H Q=>∃(p:Addr) (kvs:List (Key×V)) (ns:List Int),xs=[.ref p]∧H p=some (.dK kvs)∧kvs.map (·.1)=ns.map Sum.inl∧ns.length<64∧∀l,H l=none->Q (.ref l) (upd H l (.lst ((x3v ns).map V.int)))) y2h:=by
 intro H B ds es vs Q hB hr q k
 unfold y2h at q
 split at q
 ·rename_i ks ds'
  cases e:z5y ks with
  |none=>rw[e]at q;cases q
  |some ns=>
   rw[e,aj]at q
   split at q
   ·rename_i h64
    cases q
    obtain⟨v,rfl,r⟩:=z4m hr
    unfold Rep at r
    obtain⟨a,kvs,rfl,_,h,hk,_⟩:=r
    exact⟨a,kvs,ns,rfl,h,by rw[hk,z8U e],h64,fun l hl=>k l _ _ (z0n hl) hl z0o (z2F _)⟩
   ·cases q
 ·cases q
variable{e:Expr}{f:DE}{p pos:Pos}
theorem y6c(hc:X.calm=true)(hg:Gl X "sorted")(hm:X.mg "sorted" = none)(h:PD X e f)(he:starEach [e] X.env=[(false,eval e X.env)]:=by rfl):PF X (.Call (.Name "sorted" p) [e] [] pos) (z4J y2h [f]):=
 (z7a (y1T hc) hg hm boot_sorted (z0a h z0b he) (by decide) (by decide) he rfl).imp (callL x2Z)
end
def mkD1:D->D->Option D
 |.int a,.int b=>some (.dct [.inl a] [.int b])
 |_,_=>none
def y9I(fk fv:DE):DE:=d2 mkD1 fk fv
section
variable{X:Cx}{ke ve:Expr}{pos:Pos}{f g:DE}
theorem x2p(hk:PD X ke f)(hv:PD X ve g):PN X (.Dict [some ke] [ve] pos) (y9I f g):=(pe_disp (x3X hk hv pps_nil) rfl rfl (by simp) (by simp)).imp fun σ H Q ⟨δ,d,S,q,kk⟩=>by
 obtain⟨dx,dy,e1,e2,e3⟩:=z5Z q
 unfold mkD1 at e3
 split at e3
 ·rename_i a b
  cases e3
  intro p hp
  have s0:Same H (upd H p (.dK [])):=z0n hp
  refine⟨noB,δ,_,.no,S.mono s0,e1,fun v H2 s2 r2=>⟨noB,δ,_,.no,(S.mono s0).mono s2,e2,fun u H3 s3 r3=>?_⟩⟩
  unfold Rep at r2 r3
  subst r2 r3
  have hp3:H3 p=some (.dK []):=s3 _ _ (s2 _ _ z0o)
  refine⟨hp3,[(.inl a,.int b)],rfl,by simp,?_⟩
  refine kk (.ref p) _ [p] (fun c o ec=>?_) ?_ (aw.mpr ⟨fun z=>(nomatch z),be⟩) fun c hc=>?_
  ·have hcp:c≠p:=fun z=>by rw[z,hp]at ec;cases ec
   rw[z0v hcp]
   exact s3 _ _ (s2 _ _ (s0 _ _ ec))
  ·unfold Tree
   refine⟨p,[(.inl a,.int b)],[],rfl,z0o,rfl,?_,rfl⟩
   unfold Trees
   exact⟨.int b,[],[],[],rfl,⟨rfl,rfl⟩,⟨rfl,rfl⟩,rfl⟩
  ·rw[aq.mp hc];exact hp
 ·cases e3
end
theorem y7z{lo hi:Int}:Builtin.Range.rangeSize lo hi (-1)=(((lo - hi).toNat:Nat):Int):=by
 unfold Builtin.Range.rangeSize
 rw[if_neg (by decide)]
 by_cases h:hi<lo
 ·rw[if_pos h]
  have:(lo - hi - 1) / 1=lo - hi - 1:=Int.ediv_one _
  simp only[Int.neg_neg]
  omega
 ·rw[if_neg h]
  omega
theorem y7h{a b:Int}(ha:-(2 ^ 61)≤a)(ha':a<2 ^ 61)(hb:-(2 ^ 61)≤b)(hb':b<2 ^ 61):Builtin.Range.small a b (-1)=true:=by
 unfold Builtin.Range.small
 rw[y7z]
 simp only[Builtin.Range.rangeFitsLong,aE,Bool.or_eq_true,decide_eq_true_eq,beq_iff_eq]
 rw[if_neg (by decide),aE,decide_eq_true_eq,decide_eq_true_eq]
 omega
section
variable{X:Cx}{tg:Expr}
theorem x0W{pins:List (Addr×Obj)}{σ:St}{H:Hp}{s:Shared}{R:It->Hp->Prop}{E:Value->Shared->Prop}{lo hi:Int}{t u v:Tok}{tk:Nat}(I:Inv X pins σ H s)(h1:-(2 ^ 61)≤lo)(h2:lo<2 ^ 61)(h3:-(2 ^ 61)≤hi)(h4:hi<2 ^ 61)
  (q:R (Itr3 lo (-1) (lo - hi).toNat) H):wpAny (model X.prog X.w) X.A (pyIter (.ref s.heap.objs.size)) (PIE X pins σ tg R) E { s with heap:=s.heap.push { cls:=.type "range",data:=.fields #[.int lo t,.int hi u,.int (-1) v] },toks:=tk }:=by
 refine wpAny_pyIter_range (IsRange.new ..) (y7h h1 h2 h3 h4) ?_
 have I1:Inv X pins σ H { s with heap:=s.heap.push { cls:=.type "range",data:=.fields #[.int lo t,.int hi u,.int (-1) v] },toks:=tk }:=I.kept fun b o e=>Heap.get?_push_of_some _ e
 refine⟨(s.heap.push { cls:=.type "range",data:=.fields #[.int lo t,.int hi u,.int (-1) v] }).objs.size,[(s.heap.push { cls:=.type "range",data:=.fields #[.int lo t,.int hi u,.int (-1) v] }).objs.size],_,_,H,rfl,
  I1.kept (t':=tk) fun b o e=>Heap.get?_push_of_some _ e,y2M _ lo (-1) (lo - hi).toNat,?_,fun b hb=>?_,q⟩
 ·have e1:lo+((0:Nat):Int)*(-1)=lo:=by simp
  have e2:(((lo - hi).toNat:Nat):Int) - ((0:Nat):Int)=Builtin.Range.rangeSize lo hi (-1):=by rw[y7z];simp
  show IsRangeIter _ _ (lo+((0:Nat):Int)*(-1)) ((((lo - hi).toNat:Nat):Int) - ((0:Nat):Int)) (-1)
  rw[e1,e2]
  exact Heap.get?_push_size _ rfl
 ·have e:b=(s.heap.push { cls:=.type "range",data:=.fields #[.int lo t,.int hi u,.int (-1) v] }).objs.size:=by simpa using hb
  subst e
  exact I1.fpOk (am _) (I1.hok.fresh (am _))
def iRngN(ta:TA):TI:=fun σ H R=>ta σ H fun vs H1=>∃i j:Int,vs=[.int i,.int j,.int (-1)]∧(-(2 ^ 61)≤i∧i<2 ^ 61∧-(2 ^ 61)≤j∧j<2 ^ 61)∧R (Itr3 i (-1) (i - j).toNat) H1
theorem y9M{a b c:Expr}{ta:TA}{p pos:Pos}(hg:Gl X "range")(hm:X.mg "range" = none)(ha:PA X [a,b,c] ta)(hs:starEach [a,b,c] X.env=(false,eval a X.env)::starEach [b,c] X.env:=by rfl)(hpl:(fI pos (starEach [b,c] X.env)).any (·.1)=false:=by rfl):
  PI X tg (.Call (.Name "range" p) [a,b,c] [] pos) (iRngN ta):=by
 intro pins s σ H R I h
 refine Call_ (z5D I hg hm boot_range (PyProof.Rows.callWith_type1 (thn (ha pos pins s σ H _ I h) fun us s1 ⟨vs,H1,I1,r1,q1⟩=>?_) hs hpl))
 obtain⟨i,j,e,hb,q⟩:=q1
 subst e
 obtain⟨u,v,w,rfl,⟨t1,rfl⟩,⟨t2,rfl⟩,⟨t3,rfl⟩⟩:=r1.three
 exact call_range_3 (by omega) (x0W I1 hb.1 hb.2.1 hb.2.2.1 hb.2.2.2 q) (.inl (PyProof.noPylong_small (by omega)))
def rngN:Option D->Option D->Option D->Option (List D)
 |some (.int i),some (.int j),some (.int c)=>if c = -1∧-(2 ^ 61)≤i∧i<2 ^ 61∧-(2 ^ 61)≤j∧j<2 ^ 61 then some (x0s i (-1) (i - j).toNat)else none
 |_,_,_=>none
def x2k(f g h:DE):DS->Option (List D):=fun δ=>rngN (f δ) (g δ) (h δ)
theorem pi_rngN{a b c:Expr}{f g h:DE}{p pos:Pos}(hg:Gl X "range")(hm:X.mg "range" = none)(ha:PD X a f)(hb:PD X b g)(hc:PD X c h)(hs:starEach [a,b,c] X.env=(false,eval a X.env)::starEach [b,c] X.env:=by rfl)(hs2:starEach [b,c] X.env=(false,eval b X.env)::starEach [c] X.env:=by rfl)(hs3:starEach [c] X.env=[(false,eval c X.env)]:=by rfl)(hpl:(fI pos (starEach [b,c] X.env)).any (·.1)=false:=by rfl):
  PID X tg (.Call (.Name "range" p) [a,b,c] [] pos) (x2k f g h):=
 (y9M hg hm (z0a ha (z0a hb (z0a hc z0b hs3) hs2) hs) hs hpl).imp fun σ H R ⟨B,δ,ds,hB,S,q,k⟩=>by
  unfold x2k rngN at q
  split at q
  ·rename_i i j c e1 e2 e3
   split at q
   ·rename_i hj
    obtain⟨rfl,hj⟩:=hj
    cases q
    have ea:z0m [f,g,h] δ=some [.int i,.int j,.int (-1)]:=by unfold z0m z0m z0m;rw[e1,e2,e3];rfl
    refine⟨B,δ,[.int i,.int j,.int (-1)],hB,S,ea,fun vs H1 s1 r1=>?_⟩
    unfold Reps at r1
    obtain⟨x,r,rfl,rx,rr⟩:=r1
    unfold Reps at rr
    obtain⟨y,r',rfl,ry,rr⟩:=rr
    unfold Reps at rr
    obtain⟨z,r'',rfl,rz,rr⟩:=rr
    unfold Reps at rr
    subst rr
    exact⟨i,j,by rw[show x=V.int i from rx,show y=V.int j from ry,show z=V.int (-1) from rz],hj,k _ H1 s1 fun C _=>x2m⟩
   ·cases q
  ·cases q
end
theorem Trees.at{K:aa}{H:Hp}:∀{ds:List D} {xs:List V} {A:List Addr} {k:Nat} {d:D},Trees K H ds xs A->A.Nodup->ds[k]? = some d->∃v C,xs[k]? = some v∧Tree K H d v C∧C.Nodup∧∀a∈C,a∈A
 |[],_,_,_,_,_,_,e=>by cases e
 |d::ds,xs,A,k,d',h,nd,e=>by
  unfold Trees at h
  obtain⟨x,r,C,C',rfl,h1,h2,rfl⟩:=h
  have n2:=bP.mp nd
  cases k with
  |zero=>cases e;exact⟨x,C,rfl,h1,n2.1,fun a ha=>au.mpr (.inl ha)⟩
  |succ k=>
   obtain⟨v,D',e1,t1,nd1,sb⟩:=Trees.at (k:=k) h2 n2.2.1 (by simpa using e)
   exact⟨v,D',by simpa using e1,t1,nd1,fun a ha=>au.mpr (.inr (sb a ha))⟩
def ixL:D->D->Option D
 |.lst ds,.int i=>atI ds i
 |_,_=>none
section
variable{X:Cx}{a b:Expr}{pos:Pos}{f g:DE}
theorem pn_ixN(ha:PN X a f)(hb:PD X b g)(hs:z8e b:=by intro _ _;rfl):PN X (.Subscript a b pos) (d2 ixL f g):=(x2I x4W ha hb hs).imp fun σ H Q ⟨δ,d,S,q,k⟩=>by
 obtain⟨dx,dy,e1,e2,e3⟩:=z5Z q
 unfold ixL at e3
 split at e3
 ·rename_i ds i
  refine⟨δ,_,S,e1,fun v H1 A s1 t1 nd1 f1=>⟨noB,δ,_,.no,S.mono s1,e2,fun u H2 s2 r2=>?_⟩⟩
  unfold Rep at r2
  subst r2
  have t2:=t1.mono s2
  unfold Tree at t2
  obtain⟨p,xs,C,rfl,hp,ts,rfl⟩:=t2
  have hl:=ts.len
  unfold atI at e3
  cases e4:ixN ds.length i with
  |none=>rw[e4]at e3;cases e3
  |some j=>
   rw[e4]at e3
   obtain⟨v',C',e5,t5,nd5,sb⟩:=ts.at (aw.mp nd1).2 (show ds[j]? = some d from e3)
   have e6:atI xs i=some v':=by
    unfold atI
    rw[←hl,e4]
    exact e5
   exact .inl ⟨p,xs,i,v',rfl,rfl,SqL.of hp,e6,k v' H2 C' (s1.trans s2) t5 nd5 fun a ha=>f1 a (ae _ (sb a ha))⟩
 ·cases e3
end
def twoD:D->Option (D×D)
 |.tup [a,b]=>some (a,b)
 |_=>none
theorem y8f{d:D}{z:D×D}(h:twoD d=some z):d = .tup [z.1,z.2]:=by
 unfold twoD at h
 split at h
 ·cases h;rfl
 ·cases h
def z6c(i j:Nat)(b:SS->Option Out):List D->SS->Option Out
 |[],δ=>some (.nx δ)
 |d::r,δ=>(twoD d).bind fun z=>(b ((δ.set i (some (.sh z.1))).set j (some (.sh z.2)))).bind fun o=>match o with
  |.nx δ'=>z6c i j b r δ'
  |.ct δ'=>z6c i j b r δ'
  |.bk δ'=>some (.nx δ')
  |.rt d=>some (.rt d)
  |.rb d δ'=>some (.rb d δ')
  |.ex c δ'=>some (.ex c δ')
def x3P(i j:Nat)(f:DS->Option (List D))(g:SS->Option Out):SS->Option Out:=fun δ=>(f (shV δ)).bind fun ds=>z6c i j g ds δ
section
variable{X:Cx}{H0:Hp}{B0:Addr->Prop}{fr:Bool}{RX:XR}{pos:Pos}
def gPair(K:aa)(i j:Nat):TG:=gTup K 2 (x0J (z2Z i) (x0J (z2Z j) gNil))
theorem s_for2{i j:Nat}{tg:Expr}{iter:Expr}{body:List Stmt}{f:DS->Option (List D)}{g:SS->Option Out}(hp:PassesOwn (model X.prog X.w) X.A X.env X.xe)(hc:X.calm=true)(hi:PID X tg iter f)(hg:PG X tg (gPair X.K i j))(hb:PSs X body (tS X.K H0 B0 fr RX g))
  (hs:∀x,foldedSetIterable iter X.env x=pure x:=by intro _;rfl):PS X (.For tg iter body [] pos) (tS X.K H0 B0 fr RX (x3P i j f g)):=PS.imp (x4m hp hc hi hg hb hs) fun D σ H ⟨δ,R,o,rs,q,k⟩=>by
 unfold x3P at q
 cases e:f (shV δ)with
 |none=>rw[e]at q;cases q
 |some ds=>
 rw[e]at q
 have q:z6c i j g ds δ=some o:=q
 refine⟨_,shV δ,ds,rs.inAll,rs.shr,e,fun J H1 s1 itw=>?_⟩
 have rs1:=rs.mono s1
 have it:=itw (fun a=>H1 a=none) fun a z=>z
 refine⟨fun n m σ' H'=>m=ds.length - n∧n≤ds.length∧∃δ' R',RS X.K H0 B0 H' σ' δ' R'∧Stp R H1 R' H'∧z6c i j g (ds.drop n) δ'=some o,⟨ds.length,by simp,bu _,δ,R,rs1,.refl R H1,q⟩,?_⟩
 rintro n m σ' H' ⟨rfl,hn,δ',R',rs',s',q'⟩
 have kp:Keep X.K (fun a=>(B0 a∨∃r,a∈R r)∨H1 a=none) H1 H':=s'.keepB (fun r a z=>.inl (.inr ⟨r,z⟩)) rs1.held
 by_cases hlt:n<ds.length
 ·have hx:ds.drop n=ds[n]::ds.drop (n+1):=bj hlt
  rw[hx]at q'
  unfold z6c at q'
  cases et:twoD ds[n]with
  |none=>rw[et]at q';cases q'
  |some z=>
  rw[et,aj]at q'
  cases eb:g ((δ'.set i (some (.sh z.1))).set j (some (.sh z.2)))with
  |none=>rw[eb]at q';cases q'
  |some ob=>
   rw[eb]at q'
   refine .inr ⟨it.go n H' kp hlt,fun σ2 H2=>n+1≤ds.length∧∃δ2 R2,RS X.K H0 B0 H2 σ2 δ2 R2∧Stp R H1 R2 H2∧z6c i j g (ds.drop (n+1)) δ2=some o,fun σ2 H2 z=>⟨ds.length - (n+1),by omega,rfl,z⟩,fun xv H2 hy=>?_⟩
   obtain⟨s2,d,hd,rd⟩:=it.yld n H' xv H2 kp hy
   have hdi:d=ds[n]:=by
    have:=hd hlt
    rw[ac hlt]at this
    exact(Option.some.inj this).symm
   subst hdi
   have rd':Rep X.K H2 (fun a=>B0 a∨∃r,a∈R' r) ds[n] xv:=rd.anti fun a z=>by
    rcases z with z | ⟨r,z⟩
    ·exact .inl (.inl z)
    ·rcases s'.from' r a z with z | z
     ·exact .inl (.inr z)
     ·exact .inr z
   rw[y8f et]at rd'
   unfold Rep at rd'
   obtain⟨p,vs,rfl,hsq,rvs⟩:=rd'
   unfold Reps at rvs
   obtain⟨va,r1,rfl,ra,rvs⟩:=rvs
   unfold Reps at rvs
   obtain⟨vb,r2,rfl,rb,rvs⟩:=rvs
   unfold Reps at rvs
   subst rvs
   refine⟨p,[va,vb],rfl,hsq,rfl,va,[vb],rfl,vb,[],rfl,rfl,?_⟩
   have rs2:=((rs'.mono s2).setSh (i:=i) ra).setSh (i:=j) rb
   have st2:Stp R H1 R' H2:=s'.trans (.same s2)
   refine⟨_,R',ob,rs2,eb,?_⟩
   cases ob with
   |nx δ2=>
    have q2:z6c i j g (ds.drop (n+1)) δ2=some o:=q'
    exact fun σ3 H3 R3 rs3 s3=>⟨hlt,δ2,R3,rs3,st2.trans s3,q2⟩
   |ct δ2=>
    have q2:z6c i j g (ds.drop (n+1)) δ2=some o:=q'
    exact fun σ3 H3 R3 rs3 s3=>⟨hlt,δ2,R3,rs3,st2.trans s3,q2⟩
   |bk δ2=>
    cases q'
    exact fun σ3 H3 R3 rs3 s3=>k σ3 H3 R3 rs3 ((Stp.same s1).trans (st2.trans s3))
   |rt d=>
    cases q'
    exact k.back ((Stp.same s1).trans st2)
   |rb d δ2=>
    cases q'
    exact k.back ((Stp.same s1).trans st2)
   |ex c δ2=>
    cases q'
    exact k.back ((Stp.same s1).trans st2)
 ·have en:n=ds.length:=by omega
  subst en
  rw[cD]at q'
  cases q'
  exact .inl ⟨it.stop _ H' kp (am _),k σ' H' R' rs' ((Stp.same s1).trans s')⟩
theorem pg_pair{i j:Nat}{x y:Str}{px py tp:Pos}{x1}(hc:X.calm=true)(h1:PG X (.Name x px) (z2Z i))(h2:PG X (.Name y py) (z2Z j))
  (hs:(fG [.Name x px,.Name y py] X.env).map (·.2)=fP (.Name x px) X.env::(fG [.Name y py] X.env).map (·.2):=by rfl) (hs2:(fG [.Name y py] X.env).map (·.2)=fP (.Name y py) X.env::(fG [] X.env).map (·.2):=by rfl)
  (hn:(fG [.Name x px,.Name y py] X.env).length=2:=by rfl) (hst:(fG [.Name x px,.Name y py] X.env).findIdx? (·.1)=none:=by rfl):PG X (.Tuple [.Name x px,.Name y py] x1 tp) (gPair X.K i j):=
 x4G hc (z6X h1 (z6X h2 y8m hs2) hs) hn hst
end
def bst(ns:List Int):Nat->Nat
 |0=>0
 |k+1=>if decide (ns.getD (k+1) 0<ns.getD (bst ns k) 0)=true then k+1 else bst ns k
def mnI(ns:List Int):Int:=ns.getD (bst ns (ns.length - 1)) 0
theorem y4j{bt:Nat->Nat->Bool}{ns:List Int}(h:∀i j,bt i j=decide (ns.getD i 0<ns.getD j 0)):∀k,argBest bt k=bst ns k
 |0=>rfl
 |k+1=>by
  unfold argBest bst
  rw[y4j h k,h]
section
variable{X:Cx}
theorem y9S(hc:X.calm=true):z3w X (.builtin "min") (fun xs H Q=>∃(p:Addr) (ns:List Int),xs=[.ref p]∧SqL X.K H p (ns.map V.int)∧ns≠[]∧Q (.int (mnI ns)) H):=by
 intro pins s σ H xs us Q I r h
 obtain⟨p,ns,rfl,hq,hne,q⟩:=h
 obtain⟨u,rfl,ru⟩:=z6O r
 cases ru
 obtain⟨its,rv,pl,hz⟩:=I.list hq
 have hi:=z6j rv
 obtain⟨xs,hx⟩:=hi.allInts.items
 have hl':s.heap.IsList p (intItems xs):=hx ▸ pl.isList
 have e1:ns=xs.toList.map (·.1):=by
  rw[←nums_intItems,←hx]
  exact(show numsOf its.toArray.toList=ns from hi.numsOf).symm
 have hsz:xs.size=ns.length:=by rw[e1];simp
 have hp:0<ns.length:=cb.mpr hne
 refine min_intList (I.ok.hd hc) hl' (by omega) fun v h' tk hv hk=>?_
 have eb:argBest (fun i j=>decide (numAt xs i<numAt xs j)) (xs.size - 1)=bst ns (ns.length - 1):=by
  rw[hsz]
  refine y4j (fun i j=>?_) _
  have en:∀k,numAt xs k=ns.getD k 0:=fun k=>by
   rw[e1]
   unfold numAt
   simp[aZ]
  rw[en,en]
 rw[eb]at hv
 obtain⟨t,rfl⟩:=intItems_at hv
 have en:numAt xs (bst ns (ns.length - 1))=mnI ns:=by
  unfold mnI
  rw[e1]
  unfold numAt
  simp[aZ]
 exact⟨.int _,H,I.kept hk,⟨t,by rw[en]⟩,q⟩
def y7I:List D->Option D
 |[.lst ds]=>(z2d ds).bind fun ns=>if ns.isEmpty=true then none else some (.int (mnI ns))
 |_=>none
theorem oa_minL{K:aa}:OpA K (fun xs H Q=>∃(p:Addr) (ns:List Int),xs=[.ref p]∧SqL K H p (ns.map V.int)∧ns≠[]∧Q (.int (mnI ns)) H) y7I:=by
 intro H B ds d vs Q hB hr q k
 unfold y7I at q
 split at q
 ·rename_i es
  cases e:z2d es with
  |none=>rw[e]at q;cases q
  |some bs=>
   rw[e,aj]at q
   split at q
   ·cases q
   ·rename_i hn
    cases q
    obtain⟨v,rfl,r⟩:=z4m hr
    unfold Rep at r
    obtain⟨a,xs,rfl,_,h,rs⟩:=r
    rw[z5z e rs]at h
    exact⟨a,bs,rfl,SqL.of h,fun z=>hn (by rw[z];rfl),k _ H (.refl H) rfl⟩
 ·cases q
variable{e:Expr}{f:DE}{p pos:Pos}
theorem pd_minL(hc:X.calm=true)(hg:Gl X "min")(hm:X.mg "min" = none)(h:PD X e f)(he:starEach [e] X.env=[(false,eval e X.env)]:=by rfl):PD X (.Call (.Name "min" p) [e] [] pos) (z0k y7I [f]):=
 z3z (y9S hc) oa_minL hg hm boot_min (z0a h z0b he) (by decide) (by decide) he rfl
end
theorem Reps.pick{K:aa}{H:Hp}{B:Addr->Prop}{ds:List D}{xs:List V}(h:Reps K H B ds xs):∀l:List Nat,Reps K H B (l.filterMap (ds[·]?)) (l.filterMap (xs[·]?))
 |[]=>.nil
 |j::l=>by
  rw[ce,ce]
  cases e:ds[j]? with
  |none=>
   have hn:xs[j]? = none:=by
    rw[List.getElem?_eq_none_iff]at e ⊢
    rw[←h.length]
    exact e
   rw[hn]
   exact h.pick l
  |some d=>
   obtain⟨x,e2,r⟩:=h.get e
   rw[e2]
   exact .cons r (h.pick l)
section
end
def bigL:Nat:=2 ^ 250
def CMulB(i j:Int):Prop:=i.natAbs<bigL∧j.natAbs<bigL
instance{i j:Int}:Decidable (CMulB i j):=by unfold CMulB;infer_instance
def mulB:D->D->Option D:=iop fun i j=>if CMulB i j then some (.int (i*j))else none
theorem CMulB.ok{i j:Int}(h:CMulB i j):IntMulOk i j:=by
 have h1:Builtin.Int.intBits i≤250:=intBits_le h.1
 have h2:Builtin.Int.intBits j≤250:=intBits_le h.2
 have h3:Builtin.Int.intTooBig ((Builtin.Int.intBits i:Int)+(Builtin.Int.intBits j:Int))=false:=by
  unfold Builtin.Int.intTooBig
  apply decide_eq_false
  have hb:(2000:Int)≤bitsLine:=by decide
  omega
 unfold IntMulOk
 rw[h3]
 simp
section
variable{X:Cx}{a b:Expr}{pos:Pos}{f g:DE}
theorem op_mulB:OpR X (fM .Mult) (rI CMulB fun i j=>.int (i*j)):=opI fun _ _ _ _ _ _ _ hc q=>mul_int q hc.ok
theorem y2R(ha:PD X a f)(hb:PD X b g):PD X (.BinOp a .Mult b pos) (d2 mulB f g):=y1u op_mulB z8P ha hb
end
section
structure ItF(J:It)(lo:Int)(n:Nat):Prop where
 go:∀i H',i<n->J.go i H'
 stop:∀i H',n≤i->J.stop i H'
 yld:∀i H' x H2,J.yld i H' x H2->Same H' H2∧x = .int (lo+(i:Int))
end
section
end
end L2
namespace HT
open PySem PySem.Spec PyProof.Rows
section
variable{prog:dw}{w:fE}{A:Around}{E:Value->Shared->Prop}{s:Shared}
theorem getItem_tuple_whole{t sl:Addr}{items:Array Value}{vl vu:Value}{lo hi:Option Int}{Q:Value->Shared->Prop}(ht:IsTup s.heap t items)(hs:s.heap.IsSliceOf sl vl vu .none)(pl:IsPart vl lo)(pu:IsPart vu hi)
  (hw:sIx items.size 0 lo=0∧sIx items.size items.size hi=items.size)
  (h:Q (.ref t) s):wpAny (model prog w) A (getItem (.ref t) (.ref sl)) Q E s:=by
 obtain⟨os,hos,hcs,hds⟩:=id hs
 have hTs:s.TypeIs (.ref sl) "slice" := ⟨os,hos,hcs⟩
 unfold getItem
 try with_reducible refine wpAny_holding ?_
 first | refine wpAny_bind (wpAny_pure ?_) | skip
 refine wpAny_bind (wpAny_sequenceKey ht.typeIs (by decide) ?_)
 refine wpAny_bind (wpAny_callSpecial?_slot (name:=Str.ofString "__getitem__") ht.typeIs PyProof.Rows.slot_tuple_getitem
  (wpAny_call_entry PyProof.Rows.slot_tuple_getitem ht.typeIs entry_tuple_getitem ?_ (args_tuple_getitem _ _)))
 show wpAny _ _ (Builtin.Tuple.tupleItemsOf (.ref t) >>= _) _ _ s
 refine wpAny_bind (tupleItemsOf_ ht ?_)
 refine wpAny_bind (wpAny_typeOf hTs ?_)
 rw[if_pos (by decide)]
 refine wpAny_bind (z3L hs pl pu ?_)
 have hyes:(((sIx items.size 0 lo:Nat):Int)==0&&(1:Int)==1&&(sIx items.size items.size hi - sIx items.size 0 lo)==items.size)=true:=by
  rw[hw.1,hw.2]
  simp
 show wpAny _ _ (if(((sIx items.size 0 lo:Nat):Int)==0&&(1:Int)==1&&(sIx items.size items.size hi - sIx items.size 0 lo)==items.size)=true then _ else _) _ _ s
 rw[if_pos hyes]
 refine wpAny_bind (m:=Builtin.Tuple.tupleIsExact _) ?_
 unfold Builtin.Tuple.tupleIsExact
 refine wpAny_bind (wpAny_typeOf ht.typeIs ?_)
 refine wpAny_pure ?_
 rw[if_pos (by decide)]
 refine wpAny_bind (wpAny_rule ?_)
 exact wpAny_pure ⟨_,rfl,wpAny_pure h⟩
end
end HT
namespace L2
open PySem PySem.Spec PyProof.Rows
section
variable{X:Cx}{e a b:Expr}{lo hi:Option Expr}{p p2 pos:Pos}
def rSlW(K:aa):V->Option Int->Option Int->Hp->VK->Prop:=fun x lo hi H Q=>∃a xs,x = .ref a∧SqT K H a xs ∧
 ((HT.sIx xs.length 0 lo=0∧HT.sIx xs.length xs.length hi=xs.length)->Q (.ref a) H)∧(¬ (HT.sIx xs.length 0 lo=0∧HT.sIx xs.length xs.length hi=xs.length)->∀p,H p=none->Q (.ref p) (upd H p (.tup (y6Z xs lo hi))))
theorem sl_tupW:SlR X (rSlW X.K):=by
 intro pins s σ H x v vl vu lo hi sl Q I rx hs pl pu h
 obtain⟨a,xs,rfl,hx,q1,q2⟩:=h
 cases rx
 obtain⟨its,r,ht,hz⟩:=I.tuple hx
 have hlen:its.toArray.size=xs.length:=by rw[av];exact r.length.symm
 by_cases hw:HT.sIx xs.length 0 lo=0∧HT.sIx xs.length xs.length hi=xs.length
 ·refine⟨"tuple",_,PyProof.Rows.slot_tuple_getitem.lookup,ht.typeIs,?_⟩
  exact HT.getItem_tuple_whole ht hs pl pu (by rw[hlen];exact hw) ⟨.ref a,H,I,rfl,q1 hw⟩
 ·refine⟨"tuple",_,PyProof.Rows.slot_tuple_getitem.lookup,ht.typeIs,?_⟩
  refine HT.getItem_tuple_cut ht hs pl pu (by rw[hlen];exact hw) ?_ (by rw[hlen];exact hz)
  rw[hlen]
  refine⟨.ref s.heap.objs.size,_,I.laid (t':=s.toks) (o:=.tup (y6Z xs lo hi)) (fun b ob q=>Heap.get?_push_of_some _ q) (am _) ?_,rfl,q2 hw _ (I.hok.fresh (am _))⟩
  exact⟨aG (z7Z xs lo hi) hz,_,(r.drop (HT.sIx xs.length 0 lo)).take (HT.sIx xs.length xs.length hi - HT.sIx xs.length 0 lo),TupN.new _ _⟩
def y6T(f:DE)(fl fh:DS->Option (Option Int)):DE:=fun δ=>match f δ with
 |some (.tup ds)=>(fl δ).bind fun lo=>(fh δ).map fun hi=>.tup (z5k ds lo hi)
 |_=>none
theorem y1m{f:DE}{fl fh:DS->Option (Option Int)}(he:PD X e f)(hl:POD X lo fl)(hh:POD X hi fh):PD X (.Subscript e (.Slice lo hi none p2) pos) (y6T f fl fh):=(y5f sl_tupW he hl hh).imp fun σ H Q ⟨B,δ,d',hB,S,q,k⟩=>by
 unfold y6T at q
 split at q
 ·rename_i ds e1
  cases e2:fl δ with
  |none=>rw[e2]at q;cases q
  |some l=>
  cases e3:fh δ with
  |none=>rw[e2,e3]at q;cases q
  |some u=>
  rw[e2,e3]at q
  cases q
  refine⟨B,δ,_,hB,S,e1,fun v H1 s1 r1=>⟨B,δ,l,hB.mono s1,S.mono s1,e2,fun H2 s2=>⟨B,δ,u,(hB.mono s1).mono s2,(S.mono s1).mono s2,e3,fun H3 s3=>?_⟩⟩⟩
  unfold Rep at r1
  obtain⟨a,xs,rfl,hq,rs⟩:=r1
  have hlen:=rs.length
  refine⟨a,xs,rfl,(s2.trans s3).tup hq,fun hw=>?_,fun hw p hp=>?_⟩
  ·refine k _ _ ((s1.trans s2).trans s3) ?_
   have ec:z5k ds l u=ds:=by
    unfold z5k
    rw[←hlen]at hw
    rw[hw.1,hw.2,eu,eU,List.take_length]
   show Rep X.K H3 B (.tup (z5k ds l u)) _
   rw[ec]
   unfold Rep
   exact⟨a,xs,rfl,(s2.trans s3).tup hq,rs.mono (s2.trans s3)⟩
  ·have sa:=z0n (o:=.tup (y6Z xs l u)) hp
   refine k _ _ (((s1.trans s2).trans s3).trans sa) ?_
   show Rep X.K _ B (.tup (z5k ds l u)) _
   unfold Rep
   have rc:Reps X.K H1 B (z5k ds l u) (y6Z xs l u):=by
    unfold y6Z z5k
    rw[←hlen]
    exact(rs.drop _).take _
   exact⟨p,y6Z xs l u,rfl,SqT.of z0o,(rc.mono (s2.trans s3)).mono sa⟩
 ·cases q
def y6V(ns:List Int):Nat->Nat
 |0=>0
 |k+1=>if decide (ns.getD (k+1) 0>ns.getD (y6V ns k) 0)=true then k+1 else y6V ns k
def mxI(ns:List Int):Int:=ns.getD (y6V ns (ns.length - 1)) 0
theorem y2k{bt:Nat->Nat->Bool}{ns:List Int}(h:∀i j,bt i j=decide (ns.getD i 0>ns.getD j 0)):∀k,argBest bt k=y6V ns k
 |0=>rfl
 |k+1=>by
  unfold argBest y6V
  rw[y2k h k,h]
theorem y8l(hc:X.calm=true):z3w X (.builtin "max") (fun xs H Q=>∃(p:Addr) (ns:List Int),xs=[.ref p]∧SqL X.K H p (ns.map V.int)∧ns≠[]∧Q (.int (mxI ns)) H):=by
 intro pins s σ H xs us Q I r h
 obtain⟨p,ns,rfl,hq,hne,q⟩:=h
 obtain⟨u,rfl,ru⟩:=z6O r
 cases ru
 obtain⟨its,rv,pl,hz⟩:=I.list hq
 have hi:=z6j rv
 obtain⟨xs,hx⟩:=hi.allInts.items
 have hl':s.heap.IsList p (intItems xs):=hx ▸ pl.isList
 have e1:ns=xs.toList.map (·.1):=by
  rw[←nums_intItems,←hx]
  exact(show numsOf its.toArray.toList=ns from hi.numsOf).symm
 have hsz:xs.size=ns.length:=by rw[e1];simp
 have hp:0<ns.length:=cb.mpr hne
 refine max_intList (I.ok.hd hc) hl' (by omega) fun v h' tk hv hk=>?_
 have eb:argBest (fun i j=>decide (numAt xs i>numAt xs j)) (xs.size - 1)=y6V ns (ns.length - 1):=by
  rw[hsz]
  refine y2k (fun i j=>?_) _
  have en:∀k,numAt xs k=ns.getD k 0:=fun k=>by
   rw[e1]
   unfold numAt
   simp[aZ]
  rw[en,en]
 rw[eb]at hv
 obtain⟨t,rfl⟩:=intItems_at hv
 have en:numAt xs (y6V ns (ns.length - 1))=mxI ns:=by
  unfold mxI
  rw[e1]
  unfold numAt
  simp[aZ]
 exact⟨.int _,H,I.kept hk,⟨t,by rw[en]⟩,q⟩
def x0P:List D->Option D
 |[.lst ds]=>(z2d ds).bind fun ns=>if ns.isEmpty=true then none else some (.int (mxI ns))
 |_=>none
theorem oa_maxL{K:aa}:OpA K (fun xs H Q=>∃(p:Addr) (ns:List Int),xs=[.ref p]∧SqL K H p (ns.map V.int)∧ns≠[]∧Q (.int (mxI ns)) H) x0P:=by
 intro H B ds d vs Q hB hr q k
 unfold x0P at q
 split at q
 ·rename_i es
  cases e:z2d es with
  |none=>rw[e]at q;cases q
  |some bs=>
   rw[e,aj]at q
   split at q
   ·cases q
   ·rename_i hn
    cases q
    obtain⟨v,rfl,r⟩:=z4m hr
    unfold Rep at r
    obtain⟨a,xs,rfl,_,h,rs⟩:=r
    rw[z5z e rs]at h
    exact⟨a,bs,rfl,SqL.of h,fun z=>hn (by rw[z];rfl),k _ H (.refl H) rfl⟩
 ·cases q
variable{f:DE}
theorem pd_maxL(hc:X.calm=true)(hg:Gl X "max")(hm:X.mg "max" = none)(h:PD X e f)(he:starEach [e] X.env=[(false,eval e X.env)]:=by rfl):PD X (.Call (.Name "max" p) [e] [] pos) (z0k x0P [f]):=
 z3z (y8l hc) oa_maxL hg hm boot_max (z0a h z0b he) (by decide) (by decide) he rfl
end
end L2
namespace PySem
namespace SetTable
def Up(xs:Array Nat):Prop:=xs.toList.Pairwise (· < ·)
end SetTable
def TI(t:SetTable):Prop:=t.led=true∧(t.plain=true->SetTable.Up t.place)
end PySem
namespace PySem
section
variable{prog:dw}{w:fE}{K:Type}[DecidableEq K](knd:KeyKind prog w K)
variable{knd}
end
section
open PyProof.Rows in
end
end PySem
namespace PySem
section
open PyProof.Rows in
set_option maxHeartbeats 3200000 in
open PyProof.Rows in
end
end PySem
namespace PySem
section
end
section
end
end PySem
namespace PySem
section
end
end PySem
namespace PySem
section
end
end PySem
namespace PySem
open Sem (wp)
section
variable{K:Type}[DecidableEq K]
end
end PySem
namespace L2
open PySem PySem.Spec PyProof.Rows
section
end
section
end
section
end
section
end
section
end
section
variable{X:Cx}{a b:Expr}{pos:Pos}{f g:DE}
def rCatU(K:aa):R2:=fun x y H Q=>∃l b xs zs,x = .ref l∧y = .ref b∧SqT K H l xs∧SqT K H b zs∧xs.length+zs.length≤sizeLine∧(xs=[]->Q (.ref b) H)∧(xs≠[]->zs=[]->Q (.ref l) H)∧(xs≠[]->zs≠[]->∀p,H p=none->Q (.ref p) (upd H p (.tup (xs++zs))))
theorem op_catU:OpR X (fM .Add) (rCatU X.K):=by
 intro pins s σ H x y v u Q I rx ry h
 obtain⟨l,b,xs,zs,rfl,rfl,hH,hB,hz,q0,q1,q2⟩:=h
 cases rx
 cases ry
 obtain⟨its,o1,n1,r,e1,c1,d1,g1,z1⟩:=I.tupleO hH
 obtain⟨its2,o2,n2,r2,e2,c2,d2,g2,z2⟩:=I.tupleO hB
 have hl:=r.length
 have hl2:=r2.length
 obtain⟨cls,dd,data,sl⟩:=o1
 obtain⟨cls2,dd2,data2,sl2⟩:=o2
 simp only at c1 d1 g1 c2 d2 g2
 subst c1 d1 g1 c2 d2 g2
 by_cases h1:xs=[]
 ·refine concat_meets ⟨_,e1,rfl⟩ ⟨_,e2,rfl⟩ noFill_tuple_add seq_tuple_add PySem.F.slot_tuple_add PySem.F.entry_tuple_add (PySem.F.args_tuple_add_2 _ _) (tuple_addW0 l b its.toArray its2.toArray n1 n2 none none sl sl2 ?_) ⟨e1,e2,?_⟩
  ·rw[h1]at hl
   have:its=[]:=aS.mp hl.symm
   rw[this]
   rfl
  ·exact⟨.ref b,H,I,rfl,q0 h1⟩
 ·have hi1:¬ its.toArray.isEmpty=true:=fun z=>h1 (by
   have:its=[]:=by simpa using z
   rw[this]at hl
   exact aS.mp hl)
  by_cases h2:zs=[]
  ·refine concat_meets ⟨_,e1,rfl⟩ ⟨_,e2,rfl⟩ noFill_tuple_add seq_tuple_add PySem.F.slot_tuple_add PySem.F.entry_tuple_add (PySem.F.args_tuple_add_2 _ _) (tuple_addW1 l b its.toArray its2.toArray n1 n2 none none sl sl2 hi1 ?_) ⟨e1,e2,?_⟩
   ·rw[h2]at hl2
    have:its2=[]:=aS.mp hl2.symm
    rw[this]
    rfl
   ·exact⟨.ref l,H,I,rfl,q1 h1 h2⟩
  ·have hi2:¬ its2.toArray.isEmpty=true:=fun z=>h2 (by
    have:its2=[]:=by simpa using z
    rw[this]at hl2
    exact aS.mp hl2)
   refine concat_meets ⟨_,e1,rfl⟩ ⟨_,e2,rfl⟩ noFill_tuple_add seq_tuple_add PySem.F.slot_tuple_add PySem.F.entry_tuple_add (PySem.F.args_tuple_add_2 _ _) (tuple_addW2 l b its.toArray its2.toArray n1 n2 none none sl sl2 hi1 hi2 (by rw[av,av];omega)) ⟨e1,e2,?_⟩
   have ea:its.toArray++its2.toArray=(its++its2).toArray:=by simp
   rw[ea]
   refine⟨.ref s.heap.objs.size,_,I.laid (t':=s.toks) (o:=.tup (xs++zs)) (fun b ob q=>Heap.get?_push_of_some _ q) (am _) ?_,rfl,q2 h1 h2 _ (I.hok.fresh (am _))⟩
   exact⟨by rw[aD];omega,_,r.append r2,TupN.new _ _⟩
def catT:D->D->Option D
 |.tup ds,.tup es=>if ds.length+es.length≤sizeLine then some (.tup (ds++es))else none
 |_,_=>none
theorem y9c(ha:PD X a f)(hb:PD X b g):PD X (.BinOp a .Add b pos) (d2 catT f g):=(y6F op_catU ha hb).imp fun σ H Q ⟨B,δ,d,hB,S,q,k⟩=>by
 obtain⟨x,y,e1,e2,e3⟩:=z5Z q
 unfold catT at e3
 split at e3
 case h_2=>cases e3
 case h_1 ds es=>
 split at e3
 case isFalse=>cases e3
 case isTrue hl=>
 cases e3
 refine⟨B,δ,_,hB,S,e1,fun v H1 s1 r1=>⟨B,δ,_,hB.mono s1,S.mono s1,e2,fun v2 H2 s2 r2=>?_⟩⟩
 unfold Rep at r1 r2
 obtain⟨p1,vs,rfl,h1,rs1⟩:=r1
 obtain⟨p2,ws,rfl,h2,rs2⟩:=r2
 have l1:=rs1.length
 have l2:=rs2.length
 refine⟨p1,p2,vs,ws,rfl,rfl,s2.tup h1,h2,by rw[←l1,←l2];exact hl,fun z=>?_,fun z1 z=>?_,fun z1 z2 p hp=>?_⟩
 ·have hd:ds=[]:=aS.mp (by rw[l1,z];rfl)
  refine k _ _ (s1.trans s2) ?_
  rw[hd,cG]
  unfold Rep
  exact⟨p2,ws,rfl,h2,rs2⟩
 ·have he:es=[]:=aS.mp (by rw[l2,z];rfl)
  refine k _ _ (s1.trans s2) ?_
  rw[he,aL]
  unfold Rep
  exact⟨p1,vs,rfl,s2.tup h1,rs1.mono s2⟩
 ·have sp:=z0n (o:=.tup (vs++ws)) hp
  refine k _ _ ((s1.trans s2).trans sp) ?_
  unfold Rep
  exact⟨p,vs++ws,rfl,SqT.of z0o,((rs1.mono s2).append rs2).mono sp⟩
end
section
end
section
end
section
end
def spM2(K:aa)(F:List D->Option D):Sp:=fun vs H Q _=>∃u v r du d0 ds d A,vs=u::v::r∧Rep K H (fun a=>a∈A) du u∧Tree K H d0 v A∧A.Nodup∧Reps K H (fun a=>a∈A) ds r∧F (du::d0::ds)=some d ∧
 ∀v' H' A',Same (y2T H A) H'->Tree K H' d v' A'->A'.Nodup->(∀a∈A',a∈A∨H a=none)->(∀a,H' a=none->H a=none)->Q v' H'
def y3S(np nl:Nat)(g:SS->Option Out):List D->Option D:=fun ds=>match ds with
 |du::d0::ds=>if ds.length+2=np then(match g (some (.sh du)::some (.ow d0)::ds.map (fun d=>some (.sh d))++ai nl none)with
  |some (.rt d)=>some d
  |some (.nx _)=>some .non
  |_=>none)else none
 |_=>none
theorem y6S{K:aa}{H:Hp}{du d0:D}{u v:V}{A:List Addr}{ds:List D}{vs:List V}{N:List Str}{nl:Nat}(ru:Rep K H (fun a=>a∈A) du u)(t:Tree K H d0 v A)(nd:A.Nodup)(r:Reps K H (fun a=>a∈A) ds vs)(hN:N.length=ds.length+2+nl):
  RS K (y2T H A) noB H (z4A N (u::v::vs)) (some (.sh du)::some (.ow d0)::ds.map (fun d=>some (.sh d))++ai nl none) (fun r=>if r=1 then A else []):=by
 have hl:=r.length
 have get:∀{i:Nat} {x:SD},(some (SD.sh du)::some (SD.ow d0)::ds.map (fun d=>some (SD.sh d))++ai nl none)[i]? = some (some x)->(i=0∧x = .sh du)∨(i=1∧x = .ow d0)∨∃j d,i=j+2∧ds[j]? = some d∧x = .sh d:=fun {i x} e=>by
  cases i with
  |zero=>simp at e;exact .inl ⟨rfl,e.symm⟩
  |succ i=>
  cases i with
  |zero=>simp at e;exact .inr (.inl ⟨rfl,e.symm⟩)
  |succ j=>
   have e':(ds.map (fun d=>some (SD.sh d))++ai nl none)[j]? = some (some x):=by simpa using e
   by_cases hi:j<ds.length
   ·rw[ba (by simpa using hi),ay,ac hi]at e'
    cases e'
    exact .inr (.inr ⟨j,ds[j],rfl,ac hi,rfl⟩)
   ·rw[bg (by simpa using hi),bA]at e'
    split at e' <;> cases e'
 have mem:∀r a,a∈(if r=1 then A else [])->r=1∧a∈A:=fun r a z=>by
  split at z
  ·exact⟨by assumption,z⟩
  ·cases z
 refine⟨y6H,(fun _ z=>z.elim),?_,fun r a z=>y4I (mem r a z).2,fun r a z=>t.held d0 a (mem r a z).2,fun r s a z z'=>by rw[(mem r a z).1,(mem s a z').1],fun i d e=>?_,fun i r d e=>?_,fun i d e=>?_⟩
 ·unfold z4A
  simp
  omega
 ·rcases get e with⟨rfl,q⟩ | ⟨_,q⟩ | ⟨j,d',rfl,e1,q⟩
  ·cases q
   refine⟨u,?_,ru.anti fun a z=>?_⟩
   ·unfold z4A
    simp
   ·rcases z with z | ⟨r,z⟩
    ·exact z.elim
    ·exact(mem r a z).2
  ·cases q
  ·cases q
   obtain⟨u',e3,rv⟩:=r.get e1
   refine⟨u',?_,rv.anti fun a z=>?_⟩
   ·unfold z4A
    have hi:j<vs.length:=(aO.mp e3).1
    rw[ba (by simp;omega),ay]
    simp[e3]
   ·rcases z with z | ⟨r,z⟩
    ·exact z.elim
    ·exact(mem r a z).2
 ·rcases get e with⟨_,q⟩ | ⟨_,q⟩ | ⟨j,d',rfl,e1,q⟩ <;> cases q
 ·rcases get e with⟨_,q⟩ | ⟨rfl,q⟩ | ⟨j,d',rfl,e1,q⟩
  ·cases q
  ·cases q
   refine⟨v,?_,t,nd⟩
   unfold z4A
   simp
  ·cases q
section
variable{P:dw}{w:fE}{K:aa}{mg:Str->Option Value}{base:Heap}
theorem defM2{x qual:Str}{st:Stmt}{f:Addr}{fd:fF}{N ps:List Str}{k np nl:Nat}{g:SS->Option Out}(F:Fun K x qual st f fd)(hm:mg x=some (.ref f))(hb:Binds K fd ps [])(S:FnScope N ps (z0e st))(hnp:ps.length=np)(hN:N.length=np+nl)
  (hbody:∀(cdv:Value) (A:Around) (outer:List Env) (s:Shared) (H H0:Hp) (E:XK),Room k (A.deeper (envOfC qual (z0e st) s.heap.objs.size f cdv)) →
   PSs (y2B CX0 P w K mg base N qual (z0e st) f cdv A outer s H E).nox (z1m st) (tS K H0 noB true noX g)):DefOk P w K mg base (k+1) x (spM2 K (y3S np nl g)):=by
 refine⟨f,fd,ps,hm,F.kp,hb,F.ok S (fun vs H Q E h=>?_) fun cdv A outer s H vs Q E hr h=>?_⟩
 ·obtain⟨u,v,r,du,d0,ds,d,A,rfl,_,_,_,rr,e,_⟩:=h
  unfold y3S at e
  simp only at e
  split at e
  ·rename_i hl
   rw[aY,aY,←rr.length,hnp]
   omega
  ·cases e
 ·obtain⟨u,v,r,du,d0,ds,d,A',rfl,ru,t,nd,rr,e,kk⟩:=h
  refine⟨_,hbody cdv A outer s H (y2T H A') E hr,?_⟩
  have hl:ds.length+2=np:=by
   unfold y3S at e
   simp only at e
   split at e
   ·assumption
   ·cases e
  have e':(match g (some (.sh du)::some (.ow d0)::ds.map (fun d=>some (.sh d))++ai nl none)with | some (.rt d)=>some d | some (.nx _)=>some D.non | _=>none)=some d:=by
   unfold y3S at e
   simp only[if_pos hl]at e
   exact e
  have rs:=y6S (nl:=nl) (N:=N) ru t nd rr (by omega)
  have fr:∀a,y2T H A' a=none->a∈A'∨H a=none:=fun a z=>by
   by_cases h:a∈A'
   ·exact .inl h
   ·rw[z8l h]at z;exact .inr z
  split at e'
  ·rename_i d' eg
   cases e'
   exact⟨_,_,_,rs,eg,fun v H' z th=>by
    obtain⟨A2,t2,nd2,fr2⟩:=z.2.1 rfl
    exact kk v H' A2 z.1 t2 nd2 (fun a ha=>fr a (fr2 a ha)) th⟩
  ·rename_i δ' eg
   cases e'
   exact⟨_,_,_,rs,eg,fun σ' H' R' rs' st'=>kk .non H' [] rs'.keep ⟨rfl,rfl⟩ be (fun a z=>nomatch z) st'.there⟩
  ·cases e'
end
def z7G(F:List D->Option D)(f0 f1:DE)(fl:List DE):DE:=fun δ=>(f0 δ).bind fun a=>(f1 δ).bind fun b=>(z0m fl δ).bind fun cs=>F (a::b::cs)
section
variable{X:Cx}{k:Nat}{x:Str}{p pos:Pos}{e e':Expr}{es:List Expr}
theorem y2a{F:List D->Option D}{f0 f1:DE}{fl:List DE}(G:DefOk X.prog X.w X.K X.mg X.base k x (spM2 X.K F))(hr:Room k X.A)(hg:Gl X x)(h0:PD X e f0)(h1:PN X e' f1)(ha:PAD X es fl)(hdb:(x==("__debug__" : Str))=false:=by decide)
  (he:starEach (e::e'::es) X.env=(false,eval e X.env)::starEach (e'::es) X.env:=by rfl) (he1:starEach (e'::es) X.env=(false,eval e' X.env)::starEach es X.env:=by rfl) (hpl:(fI pos (starEach (e'::es) X.env)).any (·.1)=false:=by rfl):PN X (.Call (.Name x p) (e::e'::es) [] pos) (z7G F f0 f1 fl):=
 (z9y G hr hg (z0M h0 (z0M h1 ha he1) he) hdb he hpl).imp fun σ H Q ⟨δ,d,S,q,k⟩=>by
  unfold z7G at q
  cases e0:f0 δ with
  |none=>rw[e0]at q;cases q
  |some a=>
  cases e1:f1 δ with
  |none=>rw[e0,e1]at q;cases q
  |some b=>
  cases e2:z0m fl δ with
  |none=>rw[e0,e1,e2]at q;cases q
  |some cs=>
  rw[e0,e1,e2]at q
  have q:F (a::b::cs)=some d:=q
  refine⟨noB,δ,a,.no,S,e0,fun u H1 s1 r1=>⟨δ,b,S.mono s1,e1,fun v H2 A s2 t2 nd2 f2=>?_⟩⟩
  have S2:RepS X.K H2 (fun x=>x∈A) σ δ:=((RepS.wide (C:=fun x=>x∈A) (S.mono s1) f2).anti fun x z=>.inr z).mono s2
  refine⟨fun x=>x∈A,δ,cs,fun x z=>?_,S2,e2,fun vs H3 s3 r3=>?_⟩
  ·obtain⟨o,qo,_⟩:=t2.held b x z
   exact⟨o,qo⟩
  show spM2 X.K F ((u::v::vs)++[]) H3 Q E0
  rw[aL]
  have ru:Rep X.K H3 (fun x=>x∈A) a u:=((Rep.wide (C:=fun x=>x∈A) f2 a r1).anti fun x z=>.inr z).mono (s2.trans s3)
  refine⟨u,v,vs,a,b,cs,d,A,rfl,ru,t2.mono s3,nd2,r3,q,fun v' H' A' s' t' nd' fr' th'=>?_⟩
  refine k v' H' A' (fun x o ex=>?_) t' nd' fun x hx=>?_
  ·refine s' x o ?_
   have ex1:=s1 x o ex
   rw[z8l fun z=>by rw[f2 x z]at ex1;cases ex1]
   exact s3 x o (s2 x o ex1)
  ·rcases fr' x hx with z | z
   ·exact s1.free (f2 x z)
   ·exact s1.free (s2.free (s3.free z))
variable{H0:Hp}{B0:Addr->Prop}{RX:XR}{a:Expr}{pos':Pos}
def ret1(i:Nat):SS->Option Out:=fun δ=>(y9i δ i).map fun d=>.rt (.lst [d])
theorem s_ret1{i:Nat}(ha:PE X a (y2I i))(hs:starEach [a] X.env=(false,eval a X.env)::starEach [] X.env:=by rfl):
  PS X (.Return (some (.List [a] pos')) pos) (tS X.K H0 B0 true RX (ret1 i)):=PS.imp (z8j (y5l (z0M ha pa_nil hs))) fun D σ H ⟨δ,R,o,rs,q,k⟩=>by
 unfold ret1 at q
 cases h1:y9i δ i with
 |none=>rw[h1]at q;cases q
 |some d=>
  rw[h1]at q
  cases q
  obtain⟨v,A,e1,t1,n1,m1⟩:=x3d rs h1
  refine⟨v,e1,by show 1≤sizeLine;rw[sizeLine_eq];omega,fun p hp=>?_⟩
  have sp:=z0n (o:=.lst [v]) hp
  have hold:∀x,x∈A->H x≠none:=fun x hx z=>by
   obtain⟨o,q,_⟩:=t1.held _ x hx
   rw[z]at q;cases q
  refine k (.ref p) _ ⟨rs.keep.trans sp,fun _=>⟨p::A,?_,aw.mpr ⟨fun z=>hold p z hp,n1⟩,fun x hx=>?_⟩,fun z=>by cases z⟩ fun x z=>sp.free z
  ·unfold Tree
   refine⟨p,[v],A,rfl,z0o,?_,rfl⟩
   unfold Trees
   exact⟨v,[],A,[],rfl,t1.mono sp,⟨rfl,rfl⟩,by simp⟩
  ·rcases ao.mp hx with z | z
   ·rw[z];exact rs.keep.free hp
   ·exact rs.new i x (m1 x z)
end
theorem se_list{es' es:List Expr}{pos:Pos}{env:Env}:starEach (.List es' pos::es) env=(false,eval (.List es' pos) env)::starEach es env:=rfl
section
end
section
end
def litI:Expr->Option Int
 |.Constant (.int i) _ _=>some i
 |_=>none
def x3V:List Expr->Option (List Int)
 |[]=>some []
 |e::es=>match litI e,x3V es with
  |some n,some ns=>some (n::ns)
  |_,_=>none
def y7L:List Expr->Option (List (List Int))
 |[]=>some []
 |.List es _::r=>match x3V es,y7L r with
  |some n,some ns=>some (n::ns)
  |_,_=>none
 |_::_=>none
def litD(rows:List (List Int)):DE:=fun _=>some (.lst (rows.map fun r=>.lst (r.map .int)))
section
variable{X:Cx}{pos:Pos}
theorem x2V{c:Const}{k:Nat}{es:List Expr}{p:Pos}{env:Env}:starEach (.Constant c k p::es) env=(false,eval (.Constant c k p) env)::starEach es env:=rfl
theorem x1h:∀{es:List Expr} {ns:List Int},x3V es=some ns->PAD X es (ns.map fun n=>dC (.int n))
 |[],_,h=>by cases h;exact z0b
 |e::es,ns,h=>by
  unfold x3V at h
  split at h
  case h_2=>cases h
  case h_1 n ns' e1 e2=>
  cases h
  unfold litI at e1
  split at e1
  case h_2=>cases e1
  case h_1=>cases e1;exact z0a z0f (x1h e2) x2V
theorem y5u(δ:DS):∀ns:List Int,z0m (ns.map fun n=>dC (.int n)) δ=some (ns.map .int)
 |[]=>rfl
 |n::ns=>by
  have ih:=y5u δ ns
  show((some (D.int n)).bind fun x=>(z0m (ns.map fun n=>dC (.int n)) δ).bind fun xs=>some (x::xs))=_
  rw[ih]
  rfl
theorem y2i:∀o:List Int,z1t (o.map D.int)=true
 |[]=>rfl
 |n::o=>by
  show(true&&z1t (o.map D.int))=true
  rw[y2i o]
  rfl
def litF(ns:List Int):DE:=z0w (z0m (ns.map fun n=>dC (.int n)))
theorem litF_eq(ns:List Int)(δ:DS):litF ns δ=some (.lst (ns.map .int)):=by
 unfold litF z0w
 rw[y5u,aj,if_pos (y2i ns)]
theorem x1K:∀{es:List Expr} {rs:List (List Int)},y7L es=some rs->(∀r∈rs,r.length≤1000)->PAN X es (rs.map litF)
 |[],_,h,_=>by cases h;exact x0r
 |.List es p::r,rs,h,hl=>by
  unfold y7L at h
  split at h
  case h_2=>cases h
  case h_1 n ns e1 e2=>
  cases h
  exact y5a (z5A (z0W (x1h e1) (by rw[ah];exact hl n af))) (x1K e2 fun r hr=>hl r (ae _ hr)) se_list
theorem y2E(δ:DS):∀rs:List (List Int),z0m (rs.map litF) δ=some (rs.map fun r=>.lst (r.map .int))
 |[]=>rfl
 |r::rs=>by
  have ih:=y2E δ rs
  show((litF r δ).bind fun x=>(z0m (rs.map litF) δ).bind fun xs=>some (x::xs))=_
  rw[ih,litF_eq]
  rfl
theorem litD_eq(rs:List (List Int)):mkL (z0m (rs.map litF))=litD rs:=by
 funext δ
 unfold mkL litD
 rw[y2E]
 rfl
theorem pn_lit{es:List Expr}{rs:List (List Int)}(h:y7L es=some rs)(hb:(Nat.ble rs.length 1000&&rs.all fun r=>Nat.ble r.length 1000)=true):PN X (.List es pos) (litD rs):=by
 have hb:=ax.mp hb
 rw[←litD_eq]
 exact y7Z (x1K h fun r hr=>bZ (aI.mp hb.2 r hr)) (by rw[ah];exact bZ hb.1)
variable{H0:Hp}{B0:Addr->Prop}{fr:Bool}{RX:XR}
@[irreducible] def PSb(X:Cx)(st:Stmt)(t:TS):Prop:=PS X st t
@[irreducible] def PSsb(X:Cx)(st:List Stmt)(t:TS):Prop:=PSs X st t
theorem x3H{i:Nat}{x:Str}{es:List Expr}{rs:List (List Int)}{lp p pos':Pos}(hN:X.N.Nodup)(hi:X.N[i]? = some x)(hx:Loc X.env.scope x)(h:y7L es=some rs)(hb:(Nat.ble rs.length 1000&&rs.all fun r=>Nat.ble r.length 1000)=true)(hf:X.fn x=true∨X.env.scope.names.lookup x=some .local):
  PSb X (.Assign [.Name x pos'] (.List es lp) p) (tS X.K H0 B0 fr RX (z5H i (litD rs))):=by
 unfold PSb
 exact z1h (z0F hN hi hx (pn_lit h hb) rfl hf)
theorem x3k{st:Stmt}{sts:List Stmt}{g h:SS->Option Out}(h1:PSb X st (tS X.K H0 B0 fr RX g))(h2:PSs X sts (tS X.K H0 B0 fr RX h)):PSsb X (st::sts) (tS X.K H0 B0 fr RX (z0J g h)):=by
 unfold PSb at h1
 unfold PSsb
 exact z0h h1 h2
end
section
variable{P:dw}{w:fE}{K:aa}{mg:Str->Option Value}{base:Heap}
theorem defNb{x qual:Str}{st:Stmt}{f:Addr}{fd:fF}{N ps:List Str}{k np nl:Nat}{g:SS->Option Out}(F:Fun K x qual st f fd)(hm:mg x=some (.ref f))(hb:Binds K fd ps [])(S:FnScope N ps (z0e st))(hnp:ps.length=np)(hN:N.length=np+nl)
  (hbody:∀(cdv:Value) (A:Around) (outer:List Env) (s:Shared) (H:Hp) (E:XK),Room k (A.deeper (envOfC qual (z0e st) s.heap.objs.size f cdv)) →
   PSsb (y2B CX0 P w K mg base N qual (z0e st) f cdv A outer s H E).nox (z1m st) (tS K H noB true noX g)):DefOk P w K mg base (k+1) x (spN K (z1G np nl g)):=
 z2I F hm hb S hnp hN fun cdv A outer s H E hr=>by
  have z:=hbody cdv A outer s H E hr
  unfold PSsb at z
  exact z
end
section
end
section
end
section
end
section
end
section
end
section
end
section
end
section
variable{K:aa}{H:Hp}
def z9N:List D->Option (List Int)
 |[]=>some []
 |.int i::ds=>(z9N ds).map (i :: ·)
 |_=>none
theorem z7c:∀{ds:List D} {ns:List Int},z9N ds=some ns->ds=ns.map .int
 |[],_,h=>by cases h;rfl
 |d::ds,ns,h=>by
  cases d
  case int i=>
   unfold z9N at h
   cases e:z9N ds with
   |none=>rw[e]at h;cases h
   |some ms=>
    rw[e]at h
    cases h
    rw[z7c e];rfl
  all_goals (unfold z9N at h;cases h)
theorem z6d:∀{ns:List Int} {ys:List V} {A:List Addr},Trees K H (ns.map .int) ys A->ys=ns.map V.int∧A=[]
 |[],_,_,h=>h
 |n::ns,ys,A,h=>by
  rw[aC]at h
  unfold Trees at h
  obtain⟨x,r,B',C,e,t,ts,eA⟩:=h
  unfold Tree at t
  obtain⟨e1,e2⟩:=z6d ts
  rw[e,eA,t.1,t.2,e1,e2]
  exact⟨rfl,rfl⟩
theorem z5M:∀ns:List Int,Trees K H (ns.map .int) (ns.map V.int) []
 |[]=>⟨rfl,rfl⟩
 |n::ns=>by
  rw[aC]
  unfold Trees
  refine⟨_,_,[],[],rfl,?_,z5M ns,rfl⟩
  unfold Tree
  exact⟨rfl,rfl⟩
end
section
end
section
end
section
end
section
end
section
end
section
end
section
end
theorem y7v{i j:Nat}{δ:SS}{d:D}(h:δ[i]? = some (some (.ow d))):(z0t j δ)[i]? = some (some (.ow d)):=by
 unfold z0t
 rw[ay,h]
 rfl
def popS(i j:Nat)(c:Int)(ds es:List D)(δ:SS):SS:=(z0t i ((z0t j δ).set j (some (.ow (.lst es))))).set i (some (.ow (.lst (ds++[.int c]))))
section
end
section
variable{prog:dw}{w:fE}{A:Around}{E:Value->Shared->Prop}{s:Shared}{it t:Addr}{i:Nat}{its:Array Value}{Q:Fin->Shared->Prop}{o ol:Obj}{n:Nat}{x:Value}
theorem tup_nx(ho:s.heap.get? it=some o)(hd:o.data = .fields #[.ref t,.int i 0])(hl:s.heap.get? t=some ol)(hdl:ol.data = .seq its n)(hx:its[i]? = some x)
  (k:Q (.done (.ret x)) { s with heap:=s.heap.update it (Obj.mapFields (·.setIfInBounds 1 (rawInt ((i:Int)+1)))) }):wpAny (model prog w) A (Builtin.«tuple_iterator.__next__» ⟨[.ref it],[]⟩) Q E s:=by
 obtain⟨hp,g,d,tk,os⟩:=s
 obtain⟨c,dd,dt,sl⟩:=o
 obtain⟨c2,dd2,dt2,sl2⟩:=ol
 cases hd
 cases hdl
 have hx':its[((i:Nat):Int).toNat]? = some x:=hx
 wp_walk
 rw[hx']
 wp_walk
 exact k
theorem tup_end(hh:A.handled=none)(ho:s.heap.get? it=some o)(hd:o.data = .fields #[.ref t,.int i 0])(hl:s.heap.get? t=some ol)(hdl:ol.data = .seq its n)(hx:its[i]? = none)
  (k:∀h' e,Heap.ExtBut it s.heap h'->(∃o,h'.get? e=some o∧o.cls = .type "StopIteration")->E (.ref e) { s with heap:=h' }):wpAny (model prog w) A (Builtin.«tuple_iterator.__next__» ⟨[.ref it],[]⟩) Q E s:=by
 obtain⟨hp,g,d,tk,os⟩:=s
 obtain⟨c,dd,dt,sl⟩:=o
 obtain⟨c2,dd2,dt2,sl2⟩:=ol
 cases hd
 cases hdl
 have hx':its[((i:Nat):Int).toNat]? = none:=hx
 wp_walk
 rw[hx']
 wp_walk
 unfold raiseNew
 wp_walk
 exact k _ _ (((Heap.SameBut.update ..).extBut.push _).push _) ⟨_,Heap.get?_push_size _ rfl,rfl⟩
def y0b(prog:dw)(w:fE)(A:Around)(it:Addr)(s:Shared)(x:Value)(S:Heap->Prop):Prop:=
 ∀(Q:Value->Shared->Prop) (E:Value->Shared->Prop),(∀h',S h'->Heap.SameBut it s.heap h'->Q x { s with heap:=h' })->wpAny (model prog w) A (Builtin.SmallTypes.nextOf (.ref it)) Q E s
def y3A(prog:dw)(w:fE)(A:Around)(it:Addr)(s:Shared):Prop:=
 ∀(Q:Value->Shared->Prop) (E:Value->Shared->Prop),(∀h' e,Heap.ExtBut it s.heap h'->(∃o,h'.get? e=some o∧o.cls = .type "StopIteration")->E (.ref e) { s with heap:=h' })->wpAny (model prog w) A (Builtin.SmallTypes.nextOf (.ref it)) Q E s
theorem y6g{l:Addr}(hi:s.heap.IsListIter it l i)(hl:s.heap.IsList l its)(hx:its[i]? = some x):y0b prog w A it s x fun h=>h.IsListIter it l (i+1):=fun _ _ k=>wpAny_nextOf_list_item hi hl hx k
theorem y9l{l:Addr}(hh:A.handled=none)(hi:s.heap.IsListIter it l i)(hl:s.heap.IsList l its)(hx:its[i]? = none):y3A prog w A it s:=fun _ _ k=>wpAny_nextOf_list_end hh hi hl hx k
theorem x0R(hi:s.heap.IsTupleIter it t i)(hl:s.heap.IsTuple t its)(hx:its[i]? = some x):y0b prog w A it s x fun h=>h.IsTupleIter it t (i+1):=fun Q E k=>by
 obtain⟨o,ho,hc,hd⟩:=id hi
 obtain⟨ol,hol,_,n,hdl⟩:=hl
 exact wpAny_bind (wpAny_callSpecial?_slot (name:=Str.ofString "__next__") hi.typeIs F.slot_tuple_iterator_next (wpAny_call_entry F.slot_tuple_iterator_next hi.typeIs F.entry_tuple_iterator_next
  (tup_nx ho hd hol hdl hx ⟨x,rfl,wpAny_pure (k _ ⟨_,Heap.get?_update_self _ ho (Obj.isFreed_of_fields (Obj.data_mapFields hd _)),(Obj.cls_mapFields ..).trans hc,(Obj.data_mapFields hd _).trans (by simp[rawInt])⟩ (Heap.SameBut.update ..))⟩) (F.args_tuple_iterator_next_1 _)))
theorem x3U(hh:A.handled=none)(hi:s.heap.IsTupleIter it t i)(hl:s.heap.IsTuple t its)(hx:its[i]? = none):y3A prog w A it s:=fun Q E k=>by
 obtain⟨o,ho,hc,hd⟩:=id hi
 obtain⟨ol,hol,_,n,hdl⟩:=hl
 exact wpAny_bind (wpAny_callSpecial?_slot (name:=Str.ofString "__next__") hi.typeIs F.slot_tuple_iterator_next (wpAny_call_entry F.slot_tuple_iterator_next hi.typeIs F.entry_tuple_iterator_next
  (tup_end hh ho hd hol hdl hx k) (F.args_tuple_iterator_next_1 _)))
end
section
variable{prog:dw}{w:fE}{A:Around}{E:Value->Shared->Prop}{s:Shared}{z TI TO i1 i2:Addr}{a b:Value}
def Stay(xs:List Addr)(h h':Heap):Prop:=∀c o,c∉xs->h.get? c=some o->h'.get? c=some o
theorem Stay.but{c:Addr}{xs:List Addr}{h h1 h2:Heap}(k:Stay xs h h1)(e:Heap.ExtBut c h1 h2)(hc:c∈xs):Stay xs h h2:=fun b o hb q=>e b o (fun z=>hb (z ▸ hc)) (k b o hb q)
theorem Stay.one{c:Addr}{xs:List Addr}{h h1:Heap}(e:Heap.ExtBut c h h1)(hc:c∈xs):Stay xs h h1:=fun b o hb q=>e b o (fun z=>hb (z ▸ hc)) q
theorem Stay.wide{xs ys:List Addr}{h h1:Heap}(k:Stay xs h h1)(e:∀c∈xs,c∈ys):Stay ys h h1:=fun b o hb q=>k b o (fun z=>hb (e b z)) q
set_option maxHeartbeats 4000000 in
theorem zip_nx{x y:Value}{S1 S2:Heap->Prop}{Q:Value->Shared->Prop}(nd:[z,TI,TO,i1,i2].Nodup)(hz:IsZip s.heap z TI TO .none)(hI:fN s.heap TI (.ref i1) (.ref i2))(hO:fN s.heap TO a b)
  (g1:∀h,Stay [z] s.heap h->y0b prog w A i1 { s with heap:=h } x S1) (g2:∀h,Stay [z,i1,TO] s.heap h->y0b prog w A i2 { s with heap:=h } y S2)
  (f1:∀h h',S1 h->(∀o,h.get? i1=some o->h'.get? i1=some o)->S1 h') (f2:∀h h',S2 h->(∀o,h.get? i2=some o->h'.get? i2=some o)->S2 h')
  (k:∀h',IsZip h' z TI TO (rawInt s.heap.objs.size)->fN h' TO x y->S1 h'->S2 h'->fN h' s.heap.objs.size x y->Stay [z,TO,i1,i2] s.heap h'->Q (.ref s.heap.objs.size) { s with heap:=h' }):
  wpAny (model prog w) A (Builtin.«zip.__next__» ⟨[.ref z],[]⟩) (fun f s'=>∃v,f = .done (.ret v)∧Q v s') E s:=by
 simp only[aw,ao,bq,or_false,not_or]at nd
 obtain⟨⟨zI,zO,z1,z2⟩,⟨IO,I1,I2⟩,⟨O1,O2⟩,⟨h12,_⟩⟩:=nd
 obtain⟨hp,g,d,tk,os⟩:=s
 have hz:hp.get? z=some ⟨.type "zip",none,.fields #[.none,.bool false,.bool false,.ref TI,.ref TO],#[]⟩:=hz
 have hI:hp.get? TI=some ⟨.type "tuple",none,.seq #[.ref i1,.ref i2] 0,#[]⟩:=hI
 have hO:hp.get? TO=some ⟨.type "tuple",none,.seq #[a,b] 0,#[]⟩:=hO
 have G1:∀(h:Heap) (Q:Value->Shared->Prop) (E:Value->Shared->Prop),(∀h',S1 h'->Heap.SameBut i1 h h'->Q x ⟨h',g,d,tk,os⟩)->Stay [z] hp h->wpAny (model prog w) A (Builtin.SmallTypes.nextOf (.ref i1)) Q E ⟨h,g,d,tk,os⟩:=fun h Q E k st=>g1 h st Q E k
 have G2:∀(h:Heap) (Q:Value->Shared->Prop) (E:Value->Shared->Prop),(∀h',S2 h'->Heap.SameBut i2 h h'->Q y ⟨h',g,d,tk,os⟩)->Stay [z,i1,TO] hp h->wpAny (model prog w) A (Builtin.SmallTypes.nextOf (.ref i2)) Q E ⟨h,g,d,tk,os⟩:=fun h Q E k st=>g2 h st Q E k
 clear g1 g2
 wp_walk using wpAny_onRaise,G1
 ·intro hb t1 sb
  have za:(hp.update z (Obj.mapFields fun x=>x.setIfInBounds 0 Value.ellipsis)).get? z=some ⟨.type "zip",none,.fields #[.ellipsis,.bool false,.bool false,.ref TI,.ref TO],#[]⟩:=Heap.get?_update_self _ hz rfl
  have sa:Heap.SameBut z hp (hp.update z (Obj.mapFields fun x=>x.setIfInBounds 0 Value.ellipsis)):=Heap.SameBut.update ..
  generalize hp.update z (Obj.mapFields fun x=>x.setIfInBounds 0 Value.ellipsis)=ha at za sa sb
  have zb:hb.get? z=some ⟨.type "zip",none,.fields #[.ellipsis,.bool false,.bool false,.ref TI,.ref TO],#[]⟩:=(sb.2 z z1).trans za
  have ob:hb.get? TO=some ⟨.type "tuple",none,.seq #[a,b] 0,#[]⟩:=(sb.2 TO O1).trans ((sa.2 TO (Ne.symm zO)).trans hO)
  have stb:Stay [z,i1,TO] hp hb:=(Stay.one sa.extBut (by simp)).but sb.extBut (by simp)
  wp_walk using wpAny_onRaise,G2
  ·intro hd t2 sd
   have oc:(hb.update TO (Obj.mapSeq fun v=>v.setIfInBounds 0 x)).get? TO=some ⟨.type "tuple",none,.seq #[x,b] 0,#[]⟩:=Heap.get?_update_self _ ob rfl
   have sc:Heap.SameBut TO hb (hb.update TO (Obj.mapSeq fun v=>v.setIfInBounds 0 x)):=Heap.SameBut.update ..
   generalize hb.update TO (Obj.mapSeq fun v=>v.setIfInBounds 0 x)=hc at oc sc sd
   have zd:hd.get? z=some ⟨.type "zip",none,.fields #[.ellipsis,.bool false,.bool false,.ref TI,.ref TO],#[]⟩:=(sd.2 z z2).trans ((sc.2 z zO).trans zb)
   have od:hd.get? TO=some ⟨.type "tuple",none,.seq #[x,b] 0,#[]⟩:=(sd.2 TO O2).trans oc
   have std:Stay [z,TO,i1,i2] hp hd:=((stb.wide (by simp)).but sc.extBut (by simp)).but sd.extBut (by simp)
   have t1d:S1 hd:=f1 _ _ t1 fun o q=>(sd.2 i1 h12).trans ((sc.2 i1 (Ne.symm O1)).trans q)
   have szd:hd.objs.size=hp.objs.size:=by rw[sd.1,sc.1,sb.1,sa.1]
   wp_walk
   have oe:(hd.update TO (Obj.mapSeq fun v=>v.setIfInBounds (0+1) y)).get? TO=some ⟨.type "tuple",none,.seq #[x,y] 0,#[]⟩:=Heap.get?_update_self _ od rfl
   have se:Heap.SameBut TO hd (hd.update TO (Obj.mapSeq fun v=>v.setIfInBounds (0+1) y)):=Heap.SameBut.update ..
   generalize hd.update TO (Obj.mapSeq fun v=>v.setIfInBounds (0+1) y)=he at oe se
   have sze:he.objs.size=hp.objs.size:=by rw[se.1,szd]
   have ze:(he.push ⟨.type "tuple",none,.seq #[x,y] 0,#[]⟩).get? z=some ⟨.type "zip",none,.fields #[.ellipsis,.bool false,.bool false,.ref TI,.ref TO],#[]⟩:=Heap.get?_push_of_some _ ((se.2 z zO).trans zd)
   have pe:(he.push ⟨.type "tuple",none,.seq #[x,y] 0,#[]⟩).get? he.objs.size=some ⟨.type "tuple",none,.seq #[x,y] 0,#[]⟩:=Heap.get?_push_size _ rfl
   have hne:he.objs.size≠z:=by rw[sze];exact cL (Heap.lt_size hz)
   have zf:=Heap.get?_update_self (Obj.mapFields fun v=>v.setIfInBounds 0 (rawInt he.objs.size)) ze rfl
   have zg:=Heap.get?_update_self (Obj.mapFields fun v=>v.setIfInBounds 1 (.bool false)) zf rfl
   have sg:∀c o,c≠z->he.get? c=some o->(((he.push ⟨.type "tuple",none,.seq #[x,y] 0,#[]⟩).update z (Obj.mapFields fun v=>v.setIfInBounds 0 (rawInt he.objs.size))).update z (Obj.mapFields fun v=>v.setIfInBounds 1 (.bool false))).get? c=some o:=fun c o hc q=>
    (Heap.SameBut.update ..).extBut _ _ hc ((Heap.SameBut.update ..).extBut _ _ hc (Heap.get?_push_of_some _ q))
   refine⟨_,rfl,?_⟩
   have pg:(((he.push ⟨.type "tuple",none,.seq #[x,y] 0,#[]⟩).update z (Obj.mapFields fun v=>v.setIfInBounds 0 (rawInt he.objs.size))).update z (Obj.mapFields fun v=>v.setIfInBounds 1 (.bool false))).get? he.objs.size=some ⟨.type "tuple",none,.seq #[x,y] 0,#[]⟩:=
    (Heap.SameBut.update ..).extBut _ _ hne ((Heap.SameBut.update ..).extBut _ _ hne pe)
   have ste:Stay [z,TO,i1,i2] hp he:=std.but se.extBut (by simp)
   have k1:=k _ (by rw[←sze];exact zg) (sg TO _ (Ne.symm zO) oe) (f1 _ _ t1d fun o q=>sg i1 o (Ne.symm z1) ((se.2 i1 (Ne.symm O1)).trans q)) (f2 _ _ t2 fun o q=>sg i2 o (Ne.symm z2) ((se.2 i2 (Ne.symm O2)).trans q)) (by rw[←sze];exact pg)
    fun c o hc q=>sg c o (fun e=>hc (by simp[e])) (ste c o hc q)
   rw[←sze]at k1
   exact k1
  ·exact stb.but (Heap.SameBut.update ..).extBut (by simp)
 ·exact Stay.one (Heap.SameBut.update ..).extBut (by simp)
set_option maxHeartbeats 4000000 in
theorem zip_e1{Q:Fin->Shared->Prop}(nd:[z,TI,TO,i1,i2].Nodup)(hz:IsZip s.heap z TI TO .none)(hI:fN s.heap TI (.ref i1) (.ref i2))(hO:fN s.heap TO a b)
  (g1:∀h,Stay [z] s.heap h->y3A prog w A i1 { s with heap:=h })
  (k:∀h' e,Stay [z,TO,i1,i2] s.heap h'->(∃o,h'.get? e=some o∧o.cls = .type "StopIteration")->E (.ref e) { s with heap:=h' }):
  wpAny (model prog w) A (Builtin.«zip.__next__» ⟨[.ref z],[]⟩) Q E s:=by
 simp only[aw,ao,bq,or_false,not_or]at nd
 obtain⟨⟨zI,zO,z1,z2⟩,⟨IO,I1,I2⟩,⟨O1,O2⟩,⟨h12,_⟩⟩:=nd
 obtain⟨hp,g,d,tk,os⟩:=s
 have hz:hp.get? z=some ⟨.type "zip",none,.fields #[.none,.bool false,.bool false,.ref TI,.ref TO],#[]⟩:=hz
 have hI:hp.get? TI=some ⟨.type "tuple",none,.seq #[.ref i1,.ref i2] 0,#[]⟩:=hI
 have hO:hp.get? TO=some ⟨.type "tuple",none,.seq #[a,b] 0,#[]⟩:=hO
 have G1:∀(h:Heap) (Q:Value->Shared->Prop) (E:Value->Shared->Prop),(∀h' e,Heap.ExtBut i1 h h'->(∃o,h'.get? e=some o∧o.cls = .type "StopIteration")->E (.ref e) ⟨h',g,d,tk,os⟩)->Stay [z] hp h->wpAny (model prog w) A (Builtin.SmallTypes.nextOf (.ref i1)) Q E ⟨h,g,d,tk,os⟩:=fun h Q E k st=>g1 h st Q E k
 clear g1
 wp_walk using wpAny_onRaise,G1
 ·intro hb e sb he
  have za:(hp.update z (Obj.mapFields fun x=>x.setIfInBounds 0 Value.ellipsis)).get? z=some ⟨.type "zip",none,.fields #[.ellipsis,.bool false,.bool false,.ref TI,.ref TO],#[]⟩:=Heap.get?_update_self _ hz rfl
  have sa:Heap.SameBut z hp (hp.update z (Obj.mapFields fun x=>x.setIfInBounds 0 Value.ellipsis)):=Heap.SameBut.update ..
  generalize hp.update z (Obj.mapFields fun x=>x.setIfInBounds 0 Value.ellipsis)=ha at za sa sb
  have zb:hb.get? z=some ⟨.type "zip",none,.fields #[.ellipsis,.bool false,.bool false,.ref TI,.ref TO],#[]⟩:=sb z _ z1 za
  have stb:Stay [z,TO,i1,i2] hp hb:=(Stay.one sa.extBut (by simp)).but sb (by simp)
  obtain⟨oe,ee,ec⟩:=he
  have ez:e≠z:=fun q=>by subst q;rw[zb]at ee;cases ee;simp at ec
  wp_walk
  exact k _ _ (stb.but (Heap.SameBut.update ..).extBut (by simp)) ⟨oe,(Heap.SameBut.update ..).extBut _ _ ez ee,ec⟩
 ·exact Stay.one (Heap.SameBut.update ..).extBut (by simp)
set_option maxHeartbeats 4000000 in
theorem zip_e2{x:Value}{S1:Heap->Prop}{Q:Fin->Shared->Prop}(nd:[z,TI,TO,i1,i2].Nodup)(hz:IsZip s.heap z TI TO .none)(hI:fN s.heap TI (.ref i1) (.ref i2))(hO:fN s.heap TO a b)
  (g1:∀h,Stay [z] s.heap h->y0b prog w A i1 { s with heap:=h } x S1) (g2:∀h,Stay [z,i1,TO] s.heap h->y3A prog w A i2 { s with heap:=h })
  (k:∀h' e,Stay [z,TO,i1,i2] s.heap h'->(∃o,h'.get? e=some o∧o.cls = .type "StopIteration")->E (.ref e) { s with heap:=h' }):
  wpAny (model prog w) A (Builtin.«zip.__next__» ⟨[.ref z],[]⟩) Q E s:=by
 simp only[aw,ao,bq,or_false,not_or]at nd
 obtain⟨⟨zI,zO,z1,z2⟩,⟨IO,I1,I2⟩,⟨O1,O2⟩,⟨h12,_⟩⟩:=nd
 obtain⟨hp,g,d,tk,os⟩:=s
 have hz:hp.get? z=some ⟨.type "zip",none,.fields #[.none,.bool false,.bool false,.ref TI,.ref TO],#[]⟩:=hz
 have hI:hp.get? TI=some ⟨.type "tuple",none,.seq #[.ref i1,.ref i2] 0,#[]⟩:=hI
 have hO:hp.get? TO=some ⟨.type "tuple",none,.seq #[a,b] 0,#[]⟩:=hO
 have G1:∀(h:Heap) (Q:Value->Shared->Prop) (E:Value->Shared->Prop),(∀h',S1 h'->Heap.SameBut i1 h h'->Q x ⟨h',g,d,tk,os⟩)->Stay [z] hp h->wpAny (model prog w) A (Builtin.SmallTypes.nextOf (.ref i1)) Q E ⟨h,g,d,tk,os⟩:=fun h Q E k st=>g1 h st Q E k
 have G2:∀(h:Heap) (Q:Value->Shared->Prop) (E:Value->Shared->Prop),(∀h' e,Heap.ExtBut i2 h h'->(∃o,h'.get? e=some o∧o.cls = .type "StopIteration")->E (.ref e) ⟨h',g,d,tk,os⟩)->Stay [z,i1,TO] hp h->wpAny (model prog w) A (Builtin.SmallTypes.nextOf (.ref i2)) Q E ⟨h,g,d,tk,os⟩:=fun h Q E k st=>g2 h st Q E k
 clear g1 g2
 wp_walk using wpAny_onRaise,G1
 ·intro hb t1 sb
  have za:(hp.update z (Obj.mapFields fun x=>x.setIfInBounds 0 Value.ellipsis)).get? z=some ⟨.type "zip",none,.fields #[.ellipsis,.bool false,.bool false,.ref TI,.ref TO],#[]⟩:=Heap.get?_update_self _ hz rfl
  have sa:Heap.SameBut z hp (hp.update z (Obj.mapFields fun x=>x.setIfInBounds 0 Value.ellipsis)):=Heap.SameBut.update ..
  generalize hp.update z (Obj.mapFields fun x=>x.setIfInBounds 0 Value.ellipsis)=ha at za sa sb
  have zb:hb.get? z=some ⟨.type "zip",none,.fields #[.ellipsis,.bool false,.bool false,.ref TI,.ref TO],#[]⟩:=(sb.2 z z1).trans za
  have ob:hb.get? TO=some ⟨.type "tuple",none,.seq #[a,b] 0,#[]⟩:=(sb.2 TO O1).trans ((sa.2 TO (Ne.symm zO)).trans hO)
  have stb:Stay [z,i1,TO] hp hb:=(Stay.one sa.extBut (by simp)).but sb.extBut (by simp)
  wp_walk using wpAny_onRaise,G2
  ·intro hd e sd he
   have sc:Heap.SameBut TO hb (hb.update TO (Obj.mapSeq fun v=>v.setIfInBounds 0 x)):=Heap.SameBut.update ..
   generalize hb.update TO (Obj.mapSeq fun v=>v.setIfInBounds 0 x)=hc at sc sd
   have zd:hd.get? z=some ⟨.type "zip",none,.fields #[.ellipsis,.bool false,.bool false,.ref TI,.ref TO],#[]⟩:=sd z _ z2 ((sc.2 z zO).trans zb)
   have std:Stay [z,TO,i1,i2] hp hd:=((stb.wide (by simp)).but sc.extBut (by simp)).but sd (by simp)
   obtain⟨oe,ee,ec⟩:=he
   have ez:e≠z:=fun q=>by subst q;rw[zd]at ee;cases ee;simp at ec
   wp_walk
   exact k _ _ (std.but (Heap.SameBut.update ..).extBut (by simp)) ⟨oe,(Heap.SameBut.update ..).extBut _ _ ez ee,ec⟩
  ·exact stb.but (Heap.SameBut.update ..).extBut (by simp)
 ·exact Stay.one (Heap.SameBut.update ..).extBut (by simp)
end
section
variable{prog:dw}{w:fE}{A:Around}{E:Value->Shared->Prop}{s:Shared}{z TI TO i1 i2:Addr}{a b:Value}
theorem pnx_zip{x y:Value}{S1 S2:Heap->Prop}{Q:Option Value->Shared->Prop}(nd:[z,TI,TO,i1,i2].Nodup)(hz:IsZip s.heap z TI TO .none)(hI:fN s.heap TI (.ref i1) (.ref i2))(hO:fN s.heap TO a b)
  (g1:∀A h,Stay [z] s.heap h->y0b prog w A i1 { s with heap:=h } x S1) (g2:∀A h,Stay [z,i1,TO] s.heap h->y0b prog w A i2 { s with heap:=h } y S2)
  (f1:∀h h',S1 h->(∀o,h.get? i1=some o->h'.get? i1=some o)->S1 h') (f2:∀h h',S2 h->(∀o,h.get? i2=some o->h'.get? i2=some o)->S2 h')
  (k:∀h',IsZip h' z TI TO (rawInt s.heap.objs.size)->fN h' TO x y->S1 h'->S2 h'->fN h' s.heap.objs.size x y->Stay [z,TO,i1,i2] s.heap h'->Q (some (.ref s.heap.objs.size)) { s with heap:=h' }):
  wpAny (model prog w) A (pyNext (.ref z)) Q E s:=
 have hT:s.TypeIs (.ref z) "zip" := ⟨_,hz,rfl⟩
 wpAny_bind (wpAny_attempt (wpAny_callSpecial?_slot (name:=Str.ofString "__next__") hT F.slot_zip_next (wpAny_call_entry F.slot_zip_next hT F.entry_zip_next
  (zip_nx nd hz hI hO (g1 _) (g2 _) f1 f2 fun h' a1 a2 a3 a4 a5 a6=>wpAny_pure (k h' a1 a2 a3 a4 a5 a6)) (F.args_zip_next_1 _))))
theorem pne_zip{Q:Option Value->Shared->Prop}(hh:A.handled=none)(nd:[z,TI,TO,i1,i2].Nodup)(hz:IsZip s.heap z TI TO .none)(hI:fN s.heap TI (.ref i1) (.ref i2))(hO:fN s.heap TO a b)
  (g:(∀A:Around,A.handled=none->∀h,Stay [z] s.heap h->y3A prog w A i1 { s with heap:=h })∨((∃x S1,∀A h,Stay [z] s.heap h->y0b prog w A i1 { s with heap:=h } x S1)∧∀A:Around,A.handled=none->∀h,Stay [z,i1,TO] s.heap h->y3A prog w A i2 { s with heap:=h }))
  (k:∀h',Stay [z,TO,i1,i2] s.heap h'->Q none { s with heap:=h' }):wpAny (model prog w) A (pyNext (.ref z)) Q E s:=by
 have hT:s.TypeIs (.ref z) "zip" := ⟨_,hz,rfl⟩
 have fin:∀h' e,Stay [z,TO,i1,i2] s.heap h'->(∃o,h'.get? e=some o∧o.cls = .type "StopIteration")->wpAny (model prog w) A (do if ←isInstance (.ref e) (.type "StopIteration")then pure none else throw (.ref e)) Q E { s with heap:=h' }:=fun h' e st ⟨o,ho,hc⟩=>
  wpAny_bind (wpAny_isInstance (T := "StopIteration") (b:=true) ⟨o,ho,hc⟩ isSubtype_stop (wpAny_pure (k _ st)))
 rcases g with g1 | ⟨⟨x,S1,g1⟩,g2⟩
 ·exact wpAny_bind (wpAny_attempt (wpAny_callSpecial?_slot (name:=Str.ofString "__next__") hT F.slot_zip_next (wpAny_call_entry F.slot_zip_next hT F.entry_zip_next (zip_e1 nd hz hI hO (g1 _ hh) fin) (F.args_zip_next_1 _))))
 ·exact wpAny_bind (wpAny_attempt (wpAny_callSpecial?_slot (name:=Str.ofString "__next__") hT F.slot_zip_next (wpAny_call_entry F.slot_zip_next hT F.entry_zip_next (zip_e2 nd hz hI hO (g1 _) (g2 _ hh) fin) (F.args_zip_next_1 _))))
abbrev zt1(h:Heap)(t:Addr):Heap:=h.push ⟨.type "tuple_iterator",none,.fields #[.ref t,.int 0 0],#[]⟩
abbrev zt2(h:Heap)(t l:Addr):Heap:=(zt1 h t).push ⟨.type "list_iterator",none,.fields #[.ref l,.int 0 0],#[]⟩
abbrev zt3(h:Heap)(t l:Addr):Heap:=(zt2 h t l).push ⟨.type "tuple",none,.seq #[.ref h.objs.size,.ref (zt1 h t).objs.size] 0,#[]⟩
abbrev zt4(h:Heap)(t l:Addr):Heap:=(zt3 h t l).push ⟨.type "tuple",none,.seq #[.none,.none] 0,#[]⟩
abbrev zt5(h:Heap)(t l:Addr):Heap:=(zt4 h t l).push ⟨.type "zip",none,.fields #[.none,.bool false,.bool false,.ref (zt2 h t l).objs.size,.ref (zt3 h t l).objs.size],#[]⟩
theorem mz_new(t l:Addr)(xs ys:Array Value):Meets (Builtin.«zip.__new__» ⟨[.type "zip",.ref t,.ref l],[]⟩) fun _ R s=>s.heap.IsTuple t xs∧s.heap.IsList l ys∧R (.ok (.ret (.ref (zt4 s.heap t l).objs.size))) { s with heap:=zt5 s.heap t l }:=
 .of_wp fun prog w A R s h=>by
  obtain⟨ht,hl,h⟩:=h
  obtain⟨hp,g,d,tk,os⟩:=s
  have q0:=sub_zip
  have q1:Heap.IsTuple (Shared.heap ⟨hp,g,d,tk,os⟩) t xs:=ht
  have q2:Heap.IsList (Shared.heap ⟨zt1 hp t,g,d,tk,os⟩) l ys:=Heap.IsList.push hl _
  wp_walk using wpAny_pyIter_tuple q1,wpAny_pyIter_list q2
  exact⟨_,rfl,h⟩
theorem y9u{t l:Addr}{xs ys:Array Value}{Q:Value->Shared->Prop}(ht:s.heap.IsTuple t xs)(hl:s.heap.IsList l ys)
  (h:∀h',IsZip h' (s.heap.objs.size+4) (s.heap.objs.size+2) (s.heap.objs.size+3) .none->fN h' (s.heap.objs.size+2) (.ref s.heap.objs.size) (.ref (s.heap.objs.size+1))->fN h' (s.heap.objs.size+3) .none .none →
   h'.IsTupleIter s.heap.objs.size t 0->h'.IsListIter (s.heap.objs.size+1) l 0->(∀c o,s.heap.get? c=some o->h'.get? c=some o)->Q (.ref (s.heap.objs.size+4)) { s with heap:=h' }):
  wpAny (model prog w) A (call (.type "zip") [.ref t,.ref l]) Q E s:=by
 refine callType_new F.called_zip (by decide) (F.typeCall_zip_2 _ _) (F.newCall_zip_2 _ _) (fun obj=>F.args_object_init_3 obj _ _) F.entry_zip_new (mz_new t l xs ys) ⟨ht,hl,?_⟩
 have n1:(zt1 s.heap t).objs.size=s.heap.objs.size+1:=Heap.size_push ..
 have n2:(zt2 s.heap t l).objs.size=s.heap.objs.size+2:=(Heap.size_push ..).trans (by rw[n1])
 have n3:(zt3 s.heap t l).objs.size=s.heap.objs.size+3:=(Heap.size_push ..).trans (by rw[n2])
 have n4:(zt4 s.heap t l).objs.size=s.heap.objs.size+4:=(Heap.size_push ..).trans (by rw[n3])
 have up1:∀{c o},s.heap.get? c=some o->(zt1 s.heap t).get? c=some o:=fun q=>Heap.get?_push_of_some _ q
 have up2:∀{c o},(zt1 s.heap t).get? c=some o->(zt2 s.heap t l).get? c=some o:=fun q=>Heap.get?_push_of_some _ q
 have up3:∀{c o},(zt2 s.heap t l).get? c=some o->(zt3 s.heap t l).get? c=some o:=fun q=>Heap.get?_push_of_some _ q
 have up4:∀{c o},(zt3 s.heap t l).get? c=some o->(zt4 s.heap t l).get? c=some o:=fun q=>Heap.get?_push_of_some _ q
 have up5:∀{c o},(zt4 s.heap t l).get? c=some o->(zt5 s.heap t l).get? c=some o:=fun q=>Heap.get?_push_of_some _ q
 have a1:(zt1 s.heap t).get? s.heap.objs.size=some ⟨.type "tuple_iterator",none,.fields #[.ref t,.int 0 0],#[]⟩:=Heap.get?_push_size _ rfl
 have a2:(zt2 s.heap t l).get? (s.heap.objs.size+1)=some ⟨.type "list_iterator",none,.fields #[.ref l,.int 0 0],#[]⟩:=by rw[←n1];exact Heap.get?_push_size _ rfl
 have a3:(zt3 s.heap t l).get? (s.heap.objs.size+2)=some ⟨.type "tuple",none,.seq #[.ref s.heap.objs.size,.ref (s.heap.objs.size+1)] 0,#[]⟩:=by rw[←n2,←n1];exact Heap.get?_push_size _ rfl
 have a4:(zt4 s.heap t l).get? (s.heap.objs.size+3)=some ⟨.type "tuple",none,.seq #[.none,.none] 0,#[]⟩:=by rw[←n3];exact Heap.get?_push_size _ rfl
 have a5:(zt5 s.heap t l).get? (s.heap.objs.size+4)=some ⟨.type "zip",none,.fields #[.none,.bool false,.bool false,.ref (s.heap.objs.size+2),.ref (s.heap.objs.size+3)],#[]⟩:=by rw[←n4,←n2,←n3];exact Heap.get?_push_size _ rfl
 show _∧_
 rw[n4]
 exact⟨⟨_,a5,rfl⟩,h _ a5 (up5 (up4 a3)) (up5 a4) ⟨_,up5 (up4 (up3 (up2 a1))),rfl,rfl⟩ ⟨_,up5 (up4 (up3 a2)),rfl,rfl⟩ fun c o q=>up5 (up4 (up3 (up2 (up1 q))))⟩
end
def SqX(K:aa)(H:Hp)(tp:Bool)(a:Addr)(xs:List V):Prop:=if tp=true then SqT K H a xs else SqL K H a xs
def SIt(h:Heap)(tp:Bool)(it a:Addr)(i:Nat):Prop:=if tp=true then h.IsTupleIter it a i else h.IsListIter it a i
def SSq(h:Heap)(tp:Bool)(a:Addr)(its:Array Value):Prop:=if tp=true then h.IsTuple a its else h.IsList a its
theorem SIt.obj{h:Heap}{tp:Bool}{it a:Addr}{i:Nat}(x:SIt h tp it a i):∃o,h.get? it=some o∧(o.cls = .type "tuple_iterator" ∨ o.cls = .type "list_iterator")∧∃vs,o.data = .fields vs:=by
 cases tp with
 |true=>obtain⟨o,e,c,d⟩:=(show h.IsTupleIter it a i from x);exact⟨o,e,.inl c,_,d⟩
 |false=>obtain⟨o,e,c,d⟩:=(show h.IsListIter it a i from x);exact⟨o,e,.inr c,_,d⟩
theorem SSq.obj{h:Heap}{tp:Bool}{a:Addr}{its:Array Value}(x:SSq h tp a its):∃o,h.get? a=some o∧(o.cls = .type "tuple" ∨ o.cls = .type "list"):=by
 cases tp with
 |true=>obtain⟨o,e,c,_⟩:=(show h.IsTuple a its from x);exact⟨o,e,.inl c⟩
 |false=>obtain⟨o,e,c,_⟩:=(show h.IsList a its from x);exact⟨o,e,.inr c⟩
theorem SIt.at{h h':Heap}{tp:Bool}{it a:Addr}{i:Nat}(x:SIt h tp it a i)(k:∀o,h.get? it=some o->h'.get? it=some o):SIt h' tp it a i:=by
 cases tp with
 |true=>obtain⟨o,e,r⟩:=(show h.IsTupleIter it a i from x);exact⟨o,k o e,r⟩
 |false=>obtain⟨o,e,r⟩:=(show h.IsListIter it a i from x);exact⟨o,k o e,r⟩
theorem SSq.at{h h':Heap}{tp:Bool}{a:Addr}{its:Array Value}(x:SSq h tp a its)(k:∀o,h.get? a=some o->h'.get? a=some o):SSq h' tp a its:=by
 cases tp with
 |true=>obtain⟨o,e,r⟩:=(show h.IsTuple a its from x);exact⟨o,k o e,r⟩
 |false=>obtain⟨o,e,r⟩:=(show h.IsList a its from x);exact⟨o,k o e,r⟩
theorem y2U{prog:dw}{w:fE}{A:Around}{s:Shared}{tp:Bool}{it a:Addr}{i:Nat}{its:Array Value}{x:Value}(hi:SIt s.heap tp it a i)(hl:SSq s.heap tp a its)(hx:its[i]? = some x):y0b prog w A it s x fun h=>SIt h tp it a (i+1):=by
 cases tp with
 |true=>exact x0R hi hl hx
 |false=>exact y6g hi hl hx
theorem x4r{prog:dw}{w:fE}{A:Around}{s:Shared}{tp:Bool}{it a:Addr}{i:Nat}{its:Array Value}(hh:A.handled=none)(hi:SIt s.heap tp it a i)(hl:SSq s.heap tp a its)(hx:its[i]? = none):y3A prog w A it s:=by
 cases tp with
 |true=>exact x3U hh hi hl hx
 |false=>exact y9l hh hi hl hx
section
variable{X:Cx}{pins:List (Addr×Obj)}{σ:St}{H:Hp}{s:Shared}{a:Addr}{xs ys:List V}{tp:Bool}
theorem Inv.seqX(I:Inv X pins σ H s)(h:SqX X.K H tp a xs):∃its:List Value,Vals xs its∧SSq s.heap tp a its.toArray:=by
 cases tp with
 |true=>obtain⟨its,r,p,_⟩:=I.tuple h;exact⟨its,r,p⟩
 |false=>obtain⟨its,r,p,_⟩:=I.list h;exact⟨its,r,p.isList⟩
theorem Inv.seqX_inj(I:Inv X pins σ H s)(h:SqX X.K H tp a xs)(h':SqX X.K H tp a ys):xs=ys:=by
 cases tp with
 |true=>exact I.tuple_inj h h'
 |false=>exact I.list_inj h h'
end
def Itz(K:aa)(tp:Bool)(a b:Addr):It:=
 ⟨fun i H=>∃xs ys x y,SqX K H tp a xs∧SqL K H b ys∧xs[i]? = some x∧ys[i]? = some y,fun i H v H'=>∃p x y,H p=none∧v = .ref p∧H'=upd H p (.tup [x,y])∧∀xs ys,SqX K H tp a xs->SqL K H b ys->xs[i]? = some x∧ys[i]? = some y,
  fun i H=>∃xs ys,SqX K H tp a xs∧SqL K H b ys∧(xs.length≤i∨ys.length≤i)⟩
structure ZipAt(h:Heap)(tp:Bool)(a b z TI TO i1 i2:Addr)(i:Nat):Prop where
 zip:IsZip h z TI TO .none
 its:fN h TI (.ref i1) (.ref i2)
 out:∃u v,fN h TO u v
 one:SIt h tp i1 a i
 two:SIt h false i2 b i
theorem x2h{P:dw}{w:fE}{K:aa}{elts:List Expr}{x1}{tp:Pos}(tb:Bool)(a b z TI TO i1 i2:Addr)(nd:[z,TI,TO,i1,i2].Nodup):
  Turn P w K (.Tuple elts x1 tp) (Itz K tb a b) [z,TI,TO,i1,i2] z (fun i h=>ZipAt h tb a b z TI TO i1 i2 i) where
 mem:=by simp
 obj:=fun i h st c hc=>by
  obtain⟨u,v,ho⟩:=st.out
  obtain⟨o1,e1,_,vs1,d1⟩:=st.one.obj
  obtain⟨o2,e2,_,vs2,d2⟩:=st.two.obj
  simp only[ao,bq,or_false]at hc
  rcases hc with rfl | rfl | rfl | rfl | rfl
  ·exact⟨_,st.zip,fun v z=>by cases z⟩
  ·exact⟨_,st.its,fun v z=>by cases z⟩
  ·exact⟨_,ho,fun v z=>by cases z⟩
  ·exact⟨_,e1,fun v z=>by rw[d1]at z;cases z⟩
  ·exact⟨_,e2,fun v z=>by rw[d2]at z;cases z⟩
 keep:=fun i h h' st k=>by
  obtain⟨u,v,ho⟩:=st.out
  exact⟨k z (by simp) _ st.zip,k TI (by simp) _ st.its,⟨u,v,k TO (by simp) _ ho⟩,st.one.at fun o q=>k i1 (by simp) o q,st.two.at fun o q=>k i2 (by simp) o q⟩
 item:=by
  intro X hP hw hK hc i pins s σ H E I hf st hg
  subst hP hw hK
  obtain⟨xs,ys,x,y,hq1,hq2,hx,hy⟩:=hg
  obtain⟨l1,rv1,p1⟩:=I.seqX hq1
  obtain⟨l2,rv2,p2,_⟩:=I.list hq2
  have p2:SSq s.heap false b l2.toArray:=p2.isList
  obtain⟨u,hu,ru⟩:=rv1.get hx
  obtain⟨v,hv,rv⟩:=rv2.get hy
  obtain⟨q1,q2,hO⟩:=st.out
  obtain⟨o1,e1,c1⟩:=p1.obj
  obtain⟨o2,e2,c2⟩:=p2.obj
  have e2l:o2.cls = .type "list" := by
   obtain⟨o,e,c,_⟩:=(show s.heap.IsList b l2.toArray from p2)
   rw[e2]at e;cases e;exact c
  have az:a≠z:=fun q=>by rw[q,st.zip]at e1;cases e1;rcases c1 with c | c <;> simp at c
  have bz:b≠z:=fun q=>by rw[q,st.zip]at e2;cases e2;simp at e2l
  have bO:b≠TO:=fun q=>by rw[q,hO]at e2;cases e2;simp at e2l
  have b1:b≠i1:=fun q=>by
   obtain⟨o,e,c,_⟩:=st.one.obj
   rw[q,e]at e2;cases e2;rw[e2l]at c;rcases c with c | c <;> simp at c
  have nd':=nd
  simp only[aw,ao,bq,or_false,not_or]at nd'
  obtain⟨⟨zI,zO,z1,z2⟩,⟨IO,J1,J2⟩,⟨O1,O2⟩,⟨h12,_⟩⟩:=nd'
  have n1:∀c,c≠z->c∉[z]:=fun c h=>by simpa using h
  have n3:∀c,c≠z->c≠i1->c≠TO->c∉[z,i1,TO]:=fun c h h' h''=>by simp[h,h',h'']
  refine pnx_zip nd st.zip st.its hO (x:=u) (y:=v) (S1:=fun h=>SIt h tb i1 a (i+1)) (S2:=fun h=>SIt h false i2 b (i+1)) (fun A h k=>y2U (st.one.at fun o q=>k _ o (n1 _ (Ne.symm z1)) q) (p1.at fun o q=>k _ o (n1 _ az) q) (by simpa using hu))
   (fun A h k=>y2U (st.two.at fun o q=>k _ o (n3 _ (Ne.symm z2) (Ne.symm h12) (Ne.symm O2)) q) (p2.at fun o q=>k _ o (n3 _ bz b1 bO) q) (by simpa using hv)) (fun h h' t k=>SIt.at t k) (fun h h' t k=>SIt.at t k) fun h1 hz1 hO1 t1 t2 pr kp=>⟨_,rfl,?_⟩
  refine wpAny_letOwnedTupleGo_zip hz1 fun h2 hz2 sb=>?_
  have sb:Heap.SameBut z h1 h2:=sb
  have fpl:∀c∈[z,TI,TO,i1,i2],c<s.heap.objs.size:=fun c hc=>by
   obtain⟨_,e1,_⟩:=st.one.obj
   obtain⟨_,e2,_⟩:=st.two.obj
   simp only[ao,bq,or_false]at hc
   rcases hc with rfl | rfl | rfl | rfl | rfl
   ·exact Heap.lt_size st.zip
   ·exact Heap.lt_size st.its
   ·exact Heap.lt_size hO
   ·exact Heap.lt_size e1
   ·exact Heap.lt_size e2
  have hp:H s.heap.objs.size=none:=I.hok.fresh (am _)
  have I1:Inv X pins σ (upd H s.heap.objs.size (.tup [x,y])) { s with heap:=s.heap.push ⟨.type "tuple",none,.seq #[u,v] 0,#[]⟩,toks:=s.toks }:=
   I.laid (fun c o q=>Heap.get?_push_of_some _ q) (am _) (show ObjOk X.prog X.w _ _ _ (.tup [x,y]) from⟨by show 2≤sizeLine;rw[sizeLine_eq];decide,[u,v],.cons ru (.cons rv .nil),TupN.new _ _⟩)
  have hf1:∀c∈[z,TI,TO,i1,i2],y2A X pins (upd H s.heap.objs.size (.tup [x,y])) c:=fun c hc=>by
   obtain⟨f0,f⟩:=hf c hc
   exact⟨by rw[z0v (aH (fpl c hc))];exact f0,f⟩
  have kk:∀c o,c∉[z,TI,TO,i1,i2]->(s.heap.push ⟨.type "tuple",none,.seq #[u,v] 0,#[]⟩).get? c=some o->h2.get? c=some o:=fun c o hc q=>by
   have hcz:c≠z:=fun e=>hc (by simp[e])
   rw[sb.2 c hcz]
   by_cases hcs:c=s.heap.objs.size
   ·subst hcs
    have q2:(s.heap.push ⟨.type "tuple",none,.seq #[u,v] 0,#[]⟩).get? s.heap.objs.size=some ⟨.type "tuple",none,.seq #[u,v] 0,#[]⟩:=Heap.get?_push_size _ rfl
    rw[q2]at q
    cases q
    exact pr
   ·have q':s.heap.get? c=some o:=(Heap.get?_push_ne s.heap _ _ hcs).symm.trans q
    exact kp c o (fun e=>hc (by simp only[ao,bq,or_false]at e ⊢;rcases e with e | e | e | e <;> simp[e])) q'
  have I2:Inv X pins σ (upd H s.heap.objs.size (.tup [x,y])) { s with heap:=h2,toks:=s.toks }:=Inv.turnedL (s:={ s with heap:=s.heap.push ⟨.type "tuple",none,.seq #[u,v] 0,#[]⟩,toks:=s.toks }) (h':=h2) (t':=s.toks) (fp:=[z,TI,TO,i1,i2]) I1 kk hf1
  have up:∀c o,c≠z->h1.get? c=some o->h2.get? c=some o:=fun c o hc q=>(sb.2 c hc).trans q
  refine⟨.ref s.heap.objs.size,_,I2,rfl,⟨_,x,y,hp,rfl,rfl,fun xs' ys' h1 h2=>⟨by rw[I.seqX_inj h1 hq1];exact hx,by rw[I.list_inj h2 hq2];exact hy⟩⟩,
   ⟨hz2,up TI _ (Ne.symm zI) (kp TI _ (by simp[Ne.symm zI,IO,J1,J2]) st.its),⟨u,v,up TO _ (Ne.symm zO) hO1⟩,t1.at fun o q=>up i1 o (Ne.symm z1) q,t2.at fun o q=>up i2 o (Ne.symm z2) q⟩,fun c hc=>(hf1 c hc).1⟩
 done:=by
  intro X hP hw hK hc i pins s σ H E I hf st hg
  subst hP hw hK
  obtain⟨xs,ys,hq1,hq2,hle⟩:=hg
  obtain⟨l1,rv1,p1⟩:=I.seqX hq1
  obtain⟨l2,rv2,p2,_⟩:=I.list hq2
  have p2:SSq s.heap false b l2.toArray:=p2.isList
  obtain⟨q1,q2,hO⟩:=st.out
  obtain⟨o1,e1,c1⟩:=p1.obj
  obtain⟨o2,e2,c2⟩:=p2.obj
  have e2l:o2.cls = .type "list" := by
   obtain⟨o,e,c,_⟩:=(show s.heap.IsList b l2.toArray from p2)
   rw[e2]at e;cases e;exact c
  have az:a≠z:=fun q=>by rw[q,st.zip]at e1;cases e1;rcases c1 with c | c <;> simp at c
  have bz:b≠z:=fun q=>by rw[q,st.zip]at e2;cases e2;simp at e2l
  have bO:b≠TO:=fun q=>by rw[q,hO]at e2;cases e2;simp at e2l
  have b1:b≠i1:=fun q=>by
   obtain⟨o,e,c,_⟩:=st.one.obj
   rw[q,e]at e2;cases e2;rw[e2l]at c;rcases c with c | c <;> simp at c
  have nd':=nd
  simp only[aw,ao,bq,or_false,not_or]at nd'
  obtain⟨⟨zI,zO,z1,z2⟩,⟨IO,J1,J2⟩,⟨O1,O2⟩,⟨h12,_⟩⟩:=nd'
  have n1:∀c,c≠z->c∉[z]:=fun c h=>by simpa using h
  have n3:∀c,c≠z->c≠i1->c≠TO->c∉[z,i1,TO]:=fun c h h' h''=>by simp[h,h',h'']
  have hl1:=rv1.length
  have hl2:=rv2.length
  refine pne_zip (I.ok.hd hc) nd st.zip st.its hO ?_ fun h' kp=>⟨rfl,I.turnedL (t':=s.toks) (fp:=[z,TI,TO,i1,i2]) (fun c o hb q=>kp c o (fun e=>hb (by simp only[ao,bq,or_false]at e ⊢;rcases e with e | e | e | e <;> simp[e])) q) hf⟩
  by_cases h1:xs.length≤i
  ·exact .inl fun A hh h k=>x4r hh (st.one.at fun o q=>k _ o (n1 _ (Ne.symm z1)) q) (p1.at fun o q=>k _ o (n1 _ az) q) (by simp;omega)
  ·have h2:ys.length≤i:=hle.resolve_left h1
   have hi:i<l1.length:=by omega
   exact .inr ⟨⟨l1[i],_,fun A h k=>y2U (st.one.at fun o q=>k _ o (n1 _ (Ne.symm z1)) q) (p1.at fun o q=>k _ o (n1 _ az) q) (by simp[hi])⟩,
    fun A hh h k=>x4r hh (st.two.at fun o q=>k _ o (n3 _ (Ne.symm z2) (Ne.symm h12) (Ne.symm O2)) q) (p2.at fun o q=>k _ o (n3 _ bz b1 bO) q) (by simp;omega)⟩
 self:=fun _ _ _ _ _ st h=>wpAny_pyIter_zip st.zip h
def y6U:List D->List D->List D
 |a::r,b::q=>.tup [a,b]::y6U r q
 |_,_=>[]
def zipS:D->D->Option (List D)
 |.tup xs,.lst ys=>some (y6U xs ys)
 |.lst xs,.lst ys=>some (y6U xs ys)
 |_,_=>none
def dZip(f g:DE):DS->Option (List D):=fun δ=>(f δ).bind fun a=>(g δ).bind fun b=>zipS a b
theorem y7A:∀{ds es:List D} {i:Nat} {d e:D},ds[i]? = some d->es[i]? = some e->(y6U ds es)[i]? = some (.tup [d,e])
 |x::r,y::q,0,d,e,h,h'=>by cases h;cases h';rfl
 |x::r,y::q,i+1,d,e,h,h'=>y7A (ds:=r) (es:=q) h h'
theorem y3q:∀{ds es:List D},(y6U ds es).length=min ds.length es.length
 |[],_=>by simp[y6U]
 |_::_,[]=>by simp[y6U]
 |x::r,y::q=>by
  show(y6U r q).length+1=min (r.length+1) (q.length+1)
  rw[y3q]
  omega
theorem y8w{K:aa}{H:Hp}{B:Addr->Prop}{tp:Bool}{a b:Addr}{xs ys:List V}{ds es:List D}(hs:∀H',Keep K B H H'->SqX K H' tp a xs)(hs2:∀H',Keep K B H H'->SqL K H' b ys)(r:Reps K H B ds xs)(r2:Reps K H B es ys):ItD K (Itz K tp a b) H B (y6U ds es):=by
 have hl:=r.length
 have hl2:=r2.length
 refine⟨fun i H' kp hi=>?_,fun i H' kp hi=>?_,fun i H' v H2 kp hy=>?_⟩
 ·rw[y3q]at hi
  exact⟨xs,ys,xs[i]'(by omega),ys[i]'(by omega),hs H' kp,hs2 H' kp,ac _,ac _⟩
 ·rw[y3q]at hi
  exact⟨xs,ys,hs H' kp,hs2 H' kp,by omega⟩
 ·obtain⟨p,x,y,hp,rfl,rfl,hx⟩:=hy
  obtain⟨hx,hy⟩:=hx xs ys (hs H' kp) (hs2 H' kp)
  obtain⟨d,e,rd⟩:=(Reps.keep kp ds r).get' hx
  obtain⟨d2,e2,rd2⟩:=(Reps.keep kp es r2).get' hy
  refine⟨z0n hp,.tup [d,d2],fun _=>y7A e e2,?_⟩
  unfold Rep
  exact⟨p,_,rfl,SqT.of z0o,.cons (rd.mono (z0n hp)) (.one (rd2.mono (z0n hp)))⟩
def iZip(K:aa)(ta:TA):TI:=fun σ H R=>ta σ H fun vs H1=>∃tp a b,vs=[V.ref a,V.ref b]∧(∃xs,SqX K H1 tp a xs)∧(∃ys,SqL K H1 b ys)∧R (Itz K tp a b) H1
theorem pi_zip{X:Cx}{elts:List Expr}{x1}{tp p pos:Pos}{l m:Expr}{ta:TA}(hg:Gl X "zip")(hm:X.mg "zip" = none)(ha:PA X [l,m] ta)(hs:starEach [l,m] X.env=[(false,eval l X.env),(false,eval m X.env)]:=by rfl)(hs2:starEach [m] X.env=[(false,eval m X.env)]:=by rfl):
  PI X (.Tuple elts x1 tp) (.Call (.Name "zip" p) [l,m] [] pos) (iZip X.K ta):=by
 intro pins s σ H R I h
 refine wpAny_Call_Name_kw (z5D I hg hm boot_zip (PyProof.Rows.callWith_type1 (thn (ha pos pins s σ H _ I h) fun us s1 ⟨vs,H1,I1,r1,q1⟩=>?_) (by rw[hs,hs2]) (by rw[hs2];rfl)))
 obtain⟨tb,a,b,rfl,⟨xs,hq1⟩,⟨ys,hq2⟩,q⟩:=q1
 cases r1 with
 |cons ru r1=>
  obtain⟨v,rfl,rv⟩:=Vals.one r1
  cases ru
  cases rv
  obtain⟨l1,rv1,p1⟩:=I1.seqX hq1
  obtain⟨l2,rv2,p2,_⟩:=I1.list hq2
  have nd:[s1.heap.objs.size+4,s1.heap.objs.size+2,s1.heap.objs.size+3,s1.heap.objs.size,s1.heap.objs.size+1].Nodup:=by
   generalize s1.heap.objs.size=n
   show List.Nodup [(n+4:Nat),n+2,n+3,n,n+1]
   simp
  have fin:∀h',ZipAt h' tb a b (s1.heap.objs.size+4) (s1.heap.objs.size+2) (s1.heap.objs.size+3) s1.heap.objs.size (s1.heap.objs.size+1) 0->(∀c o,s1.heap.get? c=some o->h'.get? c=some o) →
    wpAny (model X.prog X.w) X.A (pyIter (.ref (s1.heap.objs.size+4))) (PIE X pins σ (.Tuple elts x1 tp) R) X.xe { s1 with heap:=h' }:=fun h' st kp=>by
   refine wpAny_pyIter_zip st.zip ?_
   have I2:Inv X pins σ H1 { s1 with heap:=h' }:=I1.kept (t':=s1.toks) kp
   refine⟨s1.heap.objs.size+4,[s1.heap.objs.size+4,s1.heap.objs.size+2,s1.heap.objs.size+3,s1.heap.objs.size,s1.heap.objs.size+1],_,_,H1,rfl,I2,x2h tb a b _ _ _ _ _ nd,st,fun c hc=>?_,q⟩
   have hc':s1.heap.objs.size≤c:=by
    simp only[ao,bq,or_false]at hc
    rcases hc with rfl | rfl | rfl | rfl | rfl
    ·exact cW _ _
    ·exact cW _ _
    ·exact cW _ _
    ·exact am _
    ·exact cW _ _
   exact I1.fpOk hc' (I1.hok.fresh hc')
  cases tb with
  |true=>exact y9u p1 p2.isList fun h' z1 z2 z3 z4 z5 kp=>fin h' ⟨z1,z2,⟨_,_,z3⟩,z4,z5⟩ kp
  |false=>exact call_zip_2 p1 p2.isList fun h' z1 z2 z3 z4 z5 _ kp=>fin h' ⟨z1,z2,⟨_,_,z3⟩,z4,z5⟩ kp
theorem pi_zipD{X:Cx}{elts:List Expr}{x1}{tp p pos:Pos}{l m:Expr}{f g:DE}(hg:Gl X "zip")(hm:X.mg "zip" = none)(h1:PD X l f)(h2:PD X m g)(hs:starEach [l,m] X.env=[(false,eval l X.env),(false,eval m X.env)]:=by rfl)(hs2:starEach [m] X.env=[(false,eval m X.env)]:=by rfl):
  PID X (.Tuple elts x1 tp) (.Call (.Name "zip" p) [l,m] [] pos) (dZip f g):=(pi_zip hg hm (z0a h1 (z0a h2 z0b hs2) (by rw[hs,hs2])) hs hs2).imp fun σ H R ⟨B,δ,ds,hB,S,q,k⟩=>by
 unfold dZip at q
 cases e1:f δ with
 |none=>rw[e1]at q;cases q
 |some d1=>
 rw[e1]at q
 cases e2:g δ with
 |none=>rw[e2]at q;cases q
 |some d2=>
 rw[e2]at q
 have q':zipS d1 d2=some ds:=q
 have ea:z0m [f,g] δ=some [d1,d2]:=by unfold z0m z0m;rw[e1,e2];rfl
 refine⟨B,δ,[d1,d2],hB,S,ea,fun vs H1 s1 r1=>?_⟩
 unfold Reps at r1
 obtain⟨x,r,rfl,rx,rr⟩:=r1
 unfold Reps at rr
 obtain⟨y,r',rfl,ry,rr⟩:=rr
 unfold Reps at rr
 subst rr
 unfold zipS at q'
 split at q'
 ·cases q'
  unfold Rep at rx ry
  obtain⟨a,xs,rfl,h,rxs⟩:=rx
  obtain⟨b,ys,rfl,n,h',rys⟩:=ry
  refine⟨true,a,b,rfl,⟨xs,h⟩,⟨ys,SqL.of h'⟩,k _ H1 s1 fun C hC=>?_⟩
  have nb:¬ (B b∨C b):=fun z=>z.elim n fun z=>by rw[hC b z]at h';cases h'
  exact y8w (xs:=xs) (ys:=ys) (fun H' kp=>kp.st a xs h) (fun H' kp=>SqL.of (kp.sl b ys nb h')) (Reps.wide hC _ rxs) (Reps.wide hC _ rys)
 ·cases q'
  unfold Rep at rx ry
  obtain⟨a,xs,rfl,n1,h,rxs⟩:=rx
  obtain⟨b,ys,rfl,n,h',rys⟩:=ry
  refine⟨false,a,b,rfl,⟨xs,SqL.of h⟩,⟨ys,SqL.of h'⟩,k _ H1 s1 fun C hC=>?_⟩
  have na:¬ (B a∨C a):=fun z=>z.elim n1 fun z=>by rw[hC a z]at h;cases h
  have nb:¬ (B b∨C b):=fun z=>z.elim n fun z=>by rw[hC b z]at h';cases h'
  exact y8w (xs:=xs) (ys:=ys) (fun H' kp=>SqL.of (kp.sl a xs na h)) (fun H' kp=>SqL.of (kp.sl b ys nb h')) (Reps.wide hC _ rxs) (Reps.wide hC _ rys)
 ·cases q'
section
end
section
end
section
end
section
end
section
end
end L2
namespace PySem
section
set_option maxHeartbeats 3200000 in
open PyProof.Rows in
end
end PySem
namespace L2
open PySem PySem.Spec PyProof.Rows
section
end
section
end
section
end
section
end
section
end
section
end
section
end
section
end
section
end
instance{i j:Int}:Decidable (x3e i j):=by unfold x3e;infer_instance
def divN:D->D->Option D:=iop fun i j=>if x3e i j then some (.int (i.fdiv j))else none
def absF:List D->Option D
 |[.int n]=>some (.int (if n<0 then -n else n))
 |_=>none
section
variable{X:Cx}{a b e:Expr}{f g:DE}{p pos:Pos}
theorem pd_divN(ha:PD X a f)(hb:PD X b g):PD X (.BinOp a .FloorDiv b pos) (d2 divN f g):=y1u x3J z8P ha hb
theorem oa_abs{K:aa}:OpA K (fun xs H Q=>∃n:Int,xs=[.int n]∧Q (.int (if n<0 then -n else n)) H) absF:=by
 intro H B ds d vs Q hB hr q k
 unfold absF at q
 split at q
 ·cases q
  obtain⟨v,rfl,r⟩:=z4m hr
  unfold Rep at r
  subst r
  exact⟨_,rfl,k _ H (.refl H) rfl⟩
 ·cases q
theorem pd_abs(hg:Gl X "abs")(hm:X.mg "abs" = none)(h:PD X e f)(he:starEach [e] X.env=[(false,eval e X.env)]:=by rfl):PD X (.Call (.Name "abs" p) [e] [] pos) (z0k absF [f]):=
 z3z x2r oa_abs hg hm boot_abs (z0a h z0b he) (by decide) (by decide) he rfl
end
structure MethOk(P:dw)(w:fE)(K:aa)(mg:Str->Option Value)(base:Heap)(k:Nat)(cn m:Str)(sp:Sp):Prop where
 ok:∃(C f:Addr) (fd:fF) (ps:List Str),aA K mainGlobals cn=some (some (.ref C))∧L2.Cls K C∧Meth K C m f∧Binds K fd ps []∧FnOk P w K mg base CX0 k f fd ps sp
section
end
section
end
section
end
section
def bkKs:List Str:=["thing_count", "entries", "earlier", "next_number"]
def bk4{α:Type}(a b c d:α):List (Str×α):=[("thing_count",a),("entries",b),("earlier",c),("next_number",d)]
end
section
variable{K:aa}
def spI(K:aa):Sp:=fun vs H Q _=>∃(a C dx:Addr) (m:Int),vs=[.ref a,.int m]∧H a=some (.ins C dx [])∧y6C K C bkKs=true ∧
 ∀l1 l2 H',H l1=none->H l2=none->l1≠l2->H' a=some (.ins C dx (bk4 (.int m) (.ref l1) (.ref l2) (.int 0)))->H' l1=some (.lst [])->H' l2=some (.lst [])->(∀b o,b≠a->H b=some o->H' b=some o)->(∀b,H' b=none->H b=none)->Q .non H'
end
structure NewOk(P:dw)(w:fE)(K:aa)(mg:Str->Option Value)(base:Heap)(k:Nat)(cn:Str):Prop where
 ok:∃(C fi:Addr) (fd:fF) (ps:List Str),Mk K C fi∧mg cn=some (.ref C)∧aA K mainGlobals cn=some (some (.ref C))∧y6C K C bkKs=true∧Binds K fd ps []∧FnOk P w K mg base CX0 k fi fd ps (spI K)
section
end
section
end
end L2
theorem L2.eraseIdx_map{α β:Type}(f:α->β)(l:List α)(n:Nat):(l.eraseIdx n).map f=(l.map f).eraseIdx n:=by
 induction l generalizing n with
 |nil=>rfl
 |cons x r ih=>cases n with
  |zero=>rfl
  |succ n=>simp[ih]
namespace L2
open PySem PySem.Spec PyProof.Rows
def z7v(i j:Nat)(fk:DE):SS->Option Out:=fun δ=>(fk (z0r δ)).bind fun dk=>match dk,δ[i]?,δ[j]? with
 |.int p,some (some (.ow (.lst ds))),some (some (.ow (.lst es)))=>if ds.length<sizeLine∧(z9N ds).isSome=true∧(z9N es).isSome=true∧0≤p∧p<es.length∧es.length<sizeLine then(match es[p.toNat]? with
  |some (.int c)=>some (.nx (popS i j c ds (es.eraseIdx p.toNat) δ))
  |_=>none)else none
 |_,_,_=>none
section
variable{X:Cx}{H0:Hp}{B0:Addr->Prop}{fr:Bool}{RX:XR}{e:Expr}{pos ap cp ap2 cp2:Pos}{x y:Str}{px py:Pos}
theorem y7B{i j:Nat}{fk:DE}(hij:i≠j)(hx:PE X (.Name x px) (y2I i))(hy:PE X (.Name y py) (y2I j))(hk:PD X e fk)
  (hbase2:fJ (.Name y py) "pop" X.env (eval (.Name y py) X.env)=eval (.Name y py) X.env:=by rfl)
  (hfew2:((fI cp2 (starEach [e] X.env)).all (fun x=>!x.1)&&(fQ cp2 (keywordEach [] X.env)).all (fun x=>x.1.isSome)&&decide ([e].length+([]:List fK).length+(if([]:List fK).isEmpty then 0 else 1)<30))=true:=by rfl)
  (hline2:(ap2.endLine==cp2.line)=true:=by rfl) (hs2:starEach [e] X.env=(false,eval e X.env)::starEach [] X.env:=by rfl)
  (hbase:fJ (.Name x px) "append" X.env (eval (.Name x px) X.env)=eval (.Name x px) X.env:=by rfl)
  (hfew:((fI cp (starEach [.Call (.Attribute (.Name y py) "pop" ap2) [e] [] cp2] X.env)).all (fun x=>!x.1)&&(fQ cp (keywordEach [] X.env)).all (fun x=>x.1.isSome)&&decide ([Expr.Call (.Attribute (.Name y py) "pop" ap2) [e] [] cp2].length+([]:List fK).length+(if([]:List fK).isEmpty then 0 else 1)<30))=true:=by rfl)
  (hline:(ap.endLine==cp.line)=true:=by rfl) (hs:starEach [.Call (.Attribute (.Name y py) "pop" ap2) [e] [] cp2] X.env=(false,eval (.Call (.Attribute (.Name y py) "pop" ap2) [e] [] cp2) X.env)::starEach [] X.env:=by rfl)
  (hsw:swapsWith (.Call (.Attribute (.Name x px) "append" ap) [.Call (.Attribute (.Name y py) "pop" ap2) [e] [] cp2] [] cp) none pos.line X.env=pure false:=by rfl):
  PS X (.Expr (.Call (.Attribute (.Name x px) "append" ap) [.Call (.Attribute (.Name y py) "pop" ap2) [e] [] cp2] [] cp) pos) (tS X.K H0 B0 fr RX (z7v i j fk)):=
 PS.imp (z7K (y6x PySem.F.plainAttrs_list PySem.F.slot_list_append PySem.F.type_list_append z1y hx
  (z0M (y6x PySem.F.plainAttrs_list PySem.F.slot_list_pop PySem.F.type_list_pop x3s hy (z0a hk z0b hs2) hbase2 hfew2 hline2 hs2 rfl) pa_nil hs) hbase hfew hline hs rfl) hsw) fun D σ H ⟨δ,R,o,rs,q,k⟩=>by
  unfold z7v at q
  cases ek:fk (z0r δ)with
  |none=>rw[ek]at q;cases q
  |some dk=>
  rw[ek,aj]at q
  split at q
  case h_2=>cases q
  case h_1 p ds es ei ej=>
  split at q
  case isFalse=>cases q
  case isTrue hz=>
  split at q
  case h_2=>cases q
  case h_1 c ec=>
  cases q
  obtain⟨hl,n1,n2,p0,p1,p2⟩:=hz
  obtain⟨ns,en⟩:=bN.mp n1
  obtain⟨ms,em⟩:=bN.mp n2
  obtain⟨b,ys,B,evj,hb,tsj,eRj,ndj⟩:=rs.top ej
  obtain⟨a,xs,A,evi,ha,tsi,eRi,ndi⟩:=rs.top ei
  have e2:=z7c em
  rw[e2]at tsj
  obtain⟨ey,eB⟩:=z6d tsj
  refine⟨.ref a,evi,.inl ⟨rfl,xs,SqL.of ha⟩,.ref b,evj,.inl ⟨rfl,ys,SqL.of hb⟩,noB,z0r δ,[.int p],.no,rs.all,by show(fk (z0r δ)).bind _=_;rw[ek];rfl,fun vs H2 s2 r2=>?_⟩
  obtain⟨v,rfl,rv⟩:=z4m r2
  cases (show v=V.int p from rv)
  have lm:es.length=ms.length:=by rw[e2,ah]
  have yl:ys.length=es.length:=by rw[ey,ah,lm]
  have hix:ixN ys.length p=some p.toNat:=by
   unfold ixN
   rw[yl]
   rw[if_pos p0,if_pos p1]
  have ec':ys[p.toNat]? = some (.int c):=by
   rw[ey,ay]
   rw[e2,ay]at ec
   cases eq:ms[p.toNat]? with
   |none=>rw[eq]at ec;cases ec
   |some z=>rw[eq]at ec;cases ec;rfl
  refine⟨b,ys,p,p.toNat,.int c,rfl,rfl,s2 _ _ hb,by have:=sizeLine_eq;omega,by have:=sizeLine_eq;omega,(y3E hix).1,ec',?_⟩
  have P1:=rs.put0 s2 ej evj eRj ndj (ds':=es.eraseIdx p.toNat) (xs':=ys.eraseIdx p.toNat) (A':=[]) (by
   rw[ey,e2,←eraseIdx_map,←eraseIdx_map]
   exact z5M _) be fun b hb=>nomatch hb
  have ei':((z0t j δ).set j (some (.ow (.lst (es.eraseIdx p.toNat)))))[i]? = some (some (.ow (.lst ds))):=by
   rw[aV (Ne.symm hij)]
   exact y7v ei
  obtain⟨a',xs',A',evi',ha',tsi',eRi',ndi'⟩:=P1.1.top ei'
  rw[evi]at evi'
  cases evi'
  have lx:=tsi'.length
  have tsi2:=tsi'
  rw[z7c en]at tsi2
  obtain⟨ex,_⟩:=z6d tsi2
  refine⟨a,xs',.int c,rfl,rfl,ha',by rw[←lx];exact hl,?_⟩
  have tn:Trees X.K (upd H2 b (.lst (ys.eraseIdx p.toNat))) (ds++[.int c]) (xs'++[.int c]) []:=by
   rw[ex,z7c en]
   have:=z5M (K:=X.K) (H:=upd H2 b (.lst (ys.eraseIdx p.toNat))) (ns++[c])
   rw[aF,aF]at this
   exact this
  have P2:=P1.1.put0 (.refl _) ei' evi eRi' ndi' tn be fun b hb=>nomatch hb
  exact k σ _ _ P2.1 (P1.2.trans P2.2)
end
structure MethX(P:dw)(w:fE)(K:aa)(mg:Str->Option Value)(base:Heap)(k:Nat)(cn m:Str)(sp:Sp):Prop where
 ok:∃(C f:Addr) (fd:fF) (ps:List Str),aA K mainGlobals cn=some (some (.ref C))∧L2.Cls K C∧Meth K C m f∧Binds K fd ps []∧FnOk P w K mg base (CXE P w) k f fd ps sp
section
end
section
end
inductive BO where
 |val (o d:D) | exc (c:Nat) (o:D)
section
end
section
end
inductive BR where
 |val (d:D) (δ:SS) | exc (c:Nat) (δ:SS)
section
end
section
end
section
end
structure RoomH(k:Nat)(A:Around):Prop where
 dp:A.depth+3*k+5<recursionLimit
 un:A.units+16*k+200<cLine
structure FnOkH(P:dw)(w:fE)(K:aa)(mg:Str->Option Value)(base:Heap)(k:Nat)(f:Addr)(fd:fF)(ps:List Str)(sp:Sp):Prop where
 len:∀vs H Q E,sp vs H Q E->vs.length=ps.length
 run:∀(A:Around) (outer:List Env) (s:Shared) (H:Hp) (args:Args) (us:List Value) (vs:List V) (Q:VK) (E:XK),RoomH k A->Env0 P w K mg base A outer s H->BindsTo s fd args (ps.zip us)->Vals vs us->sp vs H Q E →
  codeAny (model P w) A (.call (.ref f) args) (CR CX0 outer P w H s Q E) s
structure DefH(P:dw)(w:fE)(K:aa)(mg:Str->Option Value)(base:Heap)(k:Nat)(x:Str)(sp:Sp):Prop where
 ok:∃(f:Addr) (fd:fF) (ps:List Str),mg x=some (.ref f)∧bH K (.ref f)=true∧Binds K fd ps []∧FnOkH P w K mg base k f fd ps sp
section
end
section
end
section
end
section
end
abbrev F3:=D->List D->D->Option (D×List D×D)
section
end
section
end
def ThrW(h:Heap)(e T:Addr)(cls w:Value):Prop:=∃oe vs oT ts,h.get? e=some oe∧oe.cls=cls∧oe.data = .fields vs∧vs[1]? = some (.ref T)∧T≠e∧h.get? T=some oT∧oT.data = .fields ts∧ts[3]? = some w∧oe.dict=none
structure GoneW(S ch:List Addr)(e:Addr)(cls w:Value)(h h':Heap):Prop where
 keep:∀b o,b∉S->b∉ch->h.get? b=some o->h'.get? b=some o
 slot:∀b o,b∈S->b∉ch->h.get? b=some o->∃sl,h'.get? b=some { o with slots:=sl }
 there:∀b o,h.get? b=some o->∃o',h'.get? b=some o'
 thr:∃T,h.objs.size≤T∧ThrW h' e T cls w
section
end
section
end
section
end
def altO(g h:SS->Option Out):SS->Option Out:=fun δ=>match g δ with
 |some o=>some o
 |none=>h δ
def excO(F:DS->Option XO):SS->Option Out:=fun δ=>(F (z0r δ)).bind fun o=>match o with
 |.exc c=>some (.ex c δ)
 |_=>none
section
variable{X:Cx}{st:Stmt}{g h:SS->Option Out}{H0:Hp}{B0:Addr->Prop}{fr:Bool}{RX:XR}
theorem s_or(h1:PS X st (tS X.K H0 B0 fr RX g))(h2:PS X st (tS X.K H0 B0 fr RX h)):PS X st (tS X.K H0 B0 fr RX (altO g h)):=fun pins s σ H D I ⟨δ,R,o,rs,q,k⟩=>by
 unfold altO at q
 cases e:g δ with
 |some o'=>
  rw[e]at q
  cases q
  exact h1 pins s σ H D I ⟨δ,R,o,rs,e,k⟩
 |none=>
  rw[e]at q
  exact h2 pins s σ H D I ⟨δ,R,o,rs,q,k⟩
end
section
variable{X:Cx}{k:Nat}{e:Expr}{rpos:Pos}{F:DS->Option XO}{H0:Hp}{B0:Addr->Prop}{fr:Bool}{RX:XR}
def tEx(K:aa)(RX:XR)(F:DS->Option XO):TE:=fun σ H _=>∃δ c,RepS K H noB σ δ∧F δ=some (.exc c)∧∀H',Same H H'->RX c σ H'
theorem s_retCE(h:PE X e (tEx X.K RX F)):PS X (.Return (some e) rpos) (tS X.K H0 B0 fr RX (excO F)):=PS.imp (z8j h) fun D σ H ⟨δ,R,o,rs,q,k⟩=>by
 unfold excO at q
 cases e1:F (z0r δ)with
 |none=>rw[e1]at q;cases q
 |some xo=>
 rw[e1,aj]at q
 cases xo with
 |val d=>cases q
 |exc c=>
  cases q
  exact⟨z0r δ,c,rs.all,e1,fun H' s'=>k σ H' R (rs.mono s') (.same s')⟩
end
section
end
section
end
section
end
def tXn(K:aa)(RX:XR)(F:DS->Option XO):TE:=fun σ H Q=>∃δ o,RepS K H noB σ δ∧F δ=some o∧(match o with
 |.val d=>∀v H',Same H H'->Rep K H' noB d v->Q v H'
 |.exc c=>∀H',Same H H'->RX c σ H')
section
variable{X:Cx}{k:Nat}{e:Expr}{F:DS->Option XO}{RX:XR}
theorem px_nX(h:PE X e (tX X.K RX F)):PE X e (tXn X.K RX F):=h.imp fun σ H Q ⟨δ,o,S,q,k⟩=>by
 refine⟨δ,o,S,q,?_⟩
 cases o with
 |exc c=>exact k
 |val d=>exact fun v H' A s t _ _=>k v H' s (t.rep d fun _ _ z=>z.elim)
theorem pe_exX(h:PE X e (tXn X.K RX F)):PE X e (tEx X.K RX F):=h.imp fun σ H Q ⟨δ,c,S,q,k⟩=>⟨δ,.exc c,S,q,k⟩
end
section
end
section
variable{X:Cx}{H0:Hp}{B0:Addr->Prop}{fr:Bool}{RX:XR}
theorem sb{st:Stmt}{g:SS->Option Out}(h:PS X st (tS X.K H0 B0 fr RX g)):PSb X st (tS X.K H0 B0 fr RX g):=by
 unfold PSb
 exact h
end
section
end
def FnG(K:aa)(x:Str)(st:Stmt):Prop:=∃f fd,aA K mainGlobals x=some (some (.ref f))∧Fun K x x st f fd
def FnB(K:aa)(mg:Str->Option Value)(x:Str)(st:Stmt)(ps:List Str):Prop:=∃f fd,Fun K x x st f fd∧mg x=some (.ref f)∧Binds K fd ps []
section
variable{K:aa}{x:Str}{st:Stmt}{h:Heap}{mg:Str->Option Value}
theorem fg_of{ps:List Str}(X:K.In h)(G:h.Ns mainGlobals mg)(F:FnG K x st)(hb:∀(kV doc pm:Value) (an:Option Addr) (cdv ct:Value) (us:List Value),us.length=ps.length->bindArgs (bv x x (z3c st) (z1m st) (z0e st) .none kV doc pm an cdv ct) ⟨us,[]⟩=pure (ps.zip us)):FnB K mg x st ps:=
 let⟨f,fd,a,F⟩:=F
 ⟨f,fd,F,dX X G a,F.binds hb⟩
theorem fg1{p0:Str}(X:K.In h)(G:h.Ns mainGlobals mg)(F:FnG K x st)(hb:∀(kV doc pm:Value) (an:Option Addr) (cdv ct u0:Value),bindArgs (bv x x (z3c st) (z1m st) (z0e st) .none kV doc pm an cdv ct) ⟨[u0],[]⟩=pure ([p0].zip [u0]):=by intros;rfl):FnB K mg x st [p0]:=
 fg_of X G F fun _ _ _ _ _ _ us hl=>match us,hl with | [_],_=>hb _ _ _ _ _ _ _
theorem fg2{p0 p1:Str}(X:K.In h)(G:h.Ns mainGlobals mg)(F:FnG K x st)(hb:∀(kV doc pm:Value) (an:Option Addr) (cdv ct u0 u1:Value),bindArgs (bv x x (z3c st) (z1m st) (z0e st) .none kV doc pm an cdv ct) ⟨[u0,u1],[]⟩=pure ([p0,p1].zip [u0,u1]):=by intros;rfl):FnB K mg x st [p0,p1]:=
 fg_of X G F fun _ _ _ _ _ _ us hl=>match us,hl with | [_,_],_=>hb _ _ _ _ _ _ _ _
theorem fg3{p0 p1 p2:Str}(X:K.In h)(G:h.Ns mainGlobals mg)(F:FnG K x st)(hb:∀(kV doc pm:Value) (an:Option Addr) (cdv ct u0 u1 u2:Value),bindArgs (bv x x (z3c st) (z1m st) (z0e st) .none kV doc pm an cdv ct) ⟨[u0,u1,u2],[]⟩=pure ([p0,p1,p2].zip [u0,u1,u2]):=by intros;rfl):FnB K mg x st [p0,p1,p2]:=
 fg_of X G F fun _ _ _ _ _ _ us hl=>match us,hl with | [_,_,_],_=>hb _ _ _ _ _ _ _ _ _
theorem FnB.on{ps:List Str}{C:Prop}(B:FnB K mg x st ps)(k:∀{f:Addr} {fd:fF},Fun K x x st f fd->mg x=some (.ref f)->Binds K fd ps []->C):C:=
 let⟨_,_,F,m,b⟩:=B
 k F m b
theorem z0B{N P:List Str}{sc:fO}(h:N.Nodup∧(∀x∈P,sc.names.lookup x=some .local∨sc.names.lookup x=some .cell)∧∀y∈sc.names,y.2≠.free:=by decide +kernel)(h1:sc.kind = .function:=by rfl)(h2:sc.isCoroutine=false:=by rfl)(h3:sc.isGenerator=false:=by rfl)(h4:N.take P.length=P:=by rfl):FnScope N P sc:=
 ⟨h1,h2,h3,h.1,h4,h.2.1,h.2.2⟩
end
def exR(f:DE)(F:DS->Option XO):DS->Option XO:=fun δ=>(f δ).bind fun _=>F δ
section
variable{X:Cx}{a b e:Expr}{f:DE}{F:DS->Option XO}{RX:XR}{pos:Pos}{tb:TE}
theorem y5P{σ:St}{H:Hp}{Q:VK}(h:tEx X.K RX (exR f F) σ H Q){R:VK}(k:∀v H',tEx X.K RX F σ H' Q->R v H'):tD X.K f σ H R:=by
 obtain⟨δ,c,S,q,kk⟩:=h
 unfold exR at q
 cases e1:f δ with
 |none=>rw[e1]at q;cases q
 |some d=>
  rw[e1,aj]at q
  exact⟨noB,δ,d,.no,S,e1,fun v H1 s1 _=>k v H1 ⟨δ,c,S.mono s1,q,fun H' s'=>kk H' (s1.trans s')⟩⟩
theorem pe_exL(ha:PE X a (tEx X.K RX F))(hb:PE X b tb):PE X (.BinOp a .Add b pos) (tEx X.K RX F):=(y6F y7y ha hb).imp fun σ H Q h=>h
theorem pe_exR(ha:PD X a f)(hb:PE X b (tEx X.K RX F)):PE X (.BinOp a .Add b pos) (tEx X.K RX (exR f F)):=(y6F y7y ha hb).imp fun σ H Q h=>y5P h fun v H' h'=>h'
theorem pe_exLs(he:PE X e (tEx X.K RX F))(hs:starEach [e] X.env=(false,eval e X.env)::starEach [] X.env:=by rfl):PE X (.List [e] pos) (tEx X.K RX F):=(y5l (z0M he pa_nil hs)).imp fun σ H Q h=>h
theorem pe_exT{x1}(ha:PD X a f)(he:PE X e (tEx X.K RX F))(hs:starEach [e] X.env=(false,eval e X.env)::starEach [] X.env:=by rfl)(hs2:starEach [a,e] X.env=(false,eval a X.env)::starEach [e] X.env:=by rfl):PE X (.Tuple [a,e] x1 pos) (tEx X.K RX (exR f F)):=
 (x5q (z0M ha (z0M he pa_nil hs) hs2)).imp fun σ H Q h=>y5P h fun v H' h'=>h'
end
end L2
namespace L2
open PySem
theorem x1g{np nl:Nat}{g:SS->Option Out}{ds:List D}{d:D}(hl:ds.length=np)(e:g (ds.map (fun d=>some (.sh d))++ai nl none)=some (.rt d)):z1G np nl g ds=some d:=by
 unfold z1G
 rw[if_pos hl,e]
theorem y1N{h:D->Option (Option D)}(g:D->D):∀{xs:List D},(∀x∈xs,h x=some (some (g x)))->z1d h xs=some (xs.map g)
 |[],_=>rfl
 |x::r,hx=>by
  unfold z1d
  rw[hx x af,y1N g fun y hy=>hx y (ae _ hy)]
  rfl
theorem x2P{fi:DS->Option (List D)}{fe:DE}{δ:DS}{xs:List D}(g:D->D)(e:fi δ=some xs)(hl:xs.length≤sizeLine)(he:∀x∈xs,fe (δ++[some x])=some (g x)):z0K fi z3p fe δ=some (xs.map g):=by
 unfold z0K
 rw[e]
 show(if xs.length≤sizeLine then _ else none)=_
 rw[if_pos hl]
 refine y1N g fun x hx=>?_
 show(some true).bind _=_
 show(if true=true then(fe (δ++[some x])).map some else some none)=_
 rw[if_pos rfl,he x hx]
 rfl
theorem z1T{n:Nat}(h:n≤1000000):n≤sizeLine:=by rw[PySem.sizeLine_eq];omega
def bD(b:Bool):D:=.bl b
def z3Q(r:List Bool):D:=.lst (r.map bD)
def z0G(T:List (List Bool)):D:=.lst (T.map z3Q)
theorem y2n{ds:List D}{k:Nat}{d:D}(h:ds[k]? = some d):ixD (.lst ds) (.int (k:Int))=some d:=z1u h
theorem rng0(n:Nat):z2h 0 n=(ad n).map fun i=>.int ((i:Nat):Int):=by
 unfold z2h
 refine bp fun i _=>?_
 rw[eY]
theorem x3L{f:DE}{δ:DS}{n:Nat}(e:f δ=some (.int (n:Int)))(hn:n≤1000000):z1g f δ=some ((ad n).map fun i=>.int ((i:Nat):Int)):=by
 unfold z1g
 rw[e]
 show(if -(2 ^ 62)≤(n:Int)∧(n:Int)<2 ^ 62 then some (z2h 0 (n:Int).toNat)else none)=_
 rw[if_pos (by omega),rng0]
 rfl
theorem z7i:∀bs:List Bool,z6L (bs.map bD)=some bs
 |[]=>rfl
 |b::bs=>by
  show(z6L (bs.map bD)).map (b :: ·)=_
  rw[z7i bs]
  rfl
theorem z1V:∀r:List Bool,z1t (r.map bD)=true
 |[]=>rfl
 |b::r=>by
  show(true&&z1t (r.map bD))=true
  rw[z1V r]
  rfl
theorem eq_self{d:D}(h:okP d=true):eqD d d=some (.bl true):=by
 unfold eqD
 rw[h]
 show(if(true&&true)=true then some (D.bl (PyData.eqv (toP d) (toP d)))else none)=_
 rw[if_pos (show(true&&true)=true from rfl),SeqAt.eqv_refl _ (z0u h).1]
theorem row_ix{r:List Bool}{k:Nat}(h:k<r.length):ixD (z3Q r) (.int (k:Int))=some (.bl r[k]):=y2n (by rw[ay,ac h];rfl)
theorem tab_ix{T:List (List Bool)}{k:Nat}(h:k<T.length):ixD (z0G T) (.int (k:Int))=some (z3Q T[k]):=y2n (by rw[ay,ac h];rfl)
theorem y3F{n k:Nat}(h:k<n):ixN n (k:Int)=some k:=by
 unfold ixN
 rw[if_pos (by omega),if_pos (by omega)]
 simp
def Sq(n:Nat)(T:List (List Bool)):Prop:=T.length=n∧∀r∈T,r.length=n
theorem Sq.row{n:Nat}{T:List (List Bool)}(h:Sq n T){k:Nat}(hk:k<T.length):T[k].length=n:=h.2 _ (bT hk)
theorem Sq.set{n:Nat}{T:List (List Bool)}(h:Sq n T){a b:Nat}{v:Bool}(ha:a<T.length):Sq n (T.set a (T[a].set b v)):=by
 refine⟨by simp[h.1],fun r hr=>?_⟩
 rcases List.mem_or_eq_of_mem_set hr with z | z
 ·exact h.2 r z
 ·subst z
  rw[bY]
  exact h.row ha
theorem y2V{δ:DS}{f:DE}{n:Nat}(e:f δ=some (.int (n:Int)))(hn:n≤1000000):z0K (z1g f) z3p (dC (.bl false)) δ=some ((ai n false).map bD):=by
 rw[x2P (fun _=>.bl false) (x3L e hn) (by simp;exact z1T hn) (fun _ _=>rfl)]
 rw[aJ]
 congr 1
 apply bi
 ·simp
 ·intro i h1 h2
  simp[bD]
def hol{α:Type}(x:Option α)(Q:α->Prop):Prop:=∃a,x=some a∧Q a
section
variable{α:Type}{Q:α->Prop}
theorem z0d{a:α}:hol (some a) Q=Q a:=propext ⟨fun⟨_,e,q⟩=>by cases e;exact q,fun q=>⟨a,rfl,q⟩⟩
theorem hol_is{x:Option α}{a:α}:hol x (fun b=>b=a)↔x=some a:=⟨fun⟨_,e,q⟩=>q ▸ e,fun e=>⟨a,e,rfl⟩⟩
end
def asB:D->Option Bool
 |.bl b=>some b
 |_=>none
section
variable{Q:D->Prop}{QO:Out->Prop}{δ:DS}{s:SS}{h:DE}
theorem ho_var0{x:Option D}{r:DS}:z0c 0 (x::r)=x:=by cases x <;> rfl
def owA(i:Nat)(s:SS):Option D:=match s[i]? with
 |some (some (.ow d))=>some d
 |_=>none
theorem z0s{np nl:Nat}{b:SS->Option Out}{ds:List D}{d:D}(hl:ds.length=np)(h:hol (b (ds.map (fun d=>some (.sh d))++ai nl none)) fun o=>o = .rt d):z1G np nl b ds=some d:=x1g hl (hol_is.mp h)
theorem z6s{np nl:Nat}{b:SS->Option Out}{ds:List D}(hl:ds.length=np)(h:hol (b (ds.map (fun d=>some (.sh d))++ai nl none)) fun o=>∃d,o = .rt d∧Q d):hol (z1G np nl b ds) Q:=by
 obtain⟨o,e,d,rfl,q⟩:=h
 exact⟨d,x1g hl e,q⟩
theorem y7G{i:Nat}{b:SS->Option Out}{ds:List D}{s:SS}(I:Nat->SS->Prop)(h0:I 0 s)(hs:∀n (h:n<ds.length) δ,I n δ->hol (b (δ.set i (some (.sh ds[n])))) fun o=>match o with | .nx δ'=>I (n+1) δ' | .ct δ'=>I (n+1) δ' | .bk δ'=>QO (.nx δ') | .rt d=>QO (.rt d) | .rb d δ'=>QO (.rb d δ') | .ex c δ'=>QO (.ex c δ'))(he:∀δ,I ds.length δ->QO (.nx δ)):hol (y0S i b ds s) QO:=by
 induction ds generalizing s I with
 |nil=>exact⟨_,rfl,he _ h0⟩
 |cons x r ih=>
  obtain⟨o,e,q⟩:=hs 0 (by simp) s h0
  have e:b (s.set i (some (.sh x)))=some o:=e
  have step:∀s1,I 1 s1->hol (y0S i b r s1) QO:=fun s1 h1=>ih (fun n=>I (n+1)) h1 (fun n hn δ hI=>by
   have:=hs (n+1) (by simpa using hn) δ hI
   simpa using this) fun δ hI=>he δ (by simpa using hI)
  unfold y0S
  rw[e]
  cases o with
  |nx s1=>exact step s1 q
  |ct s1=>exact step s1 q
  |bk s1=>exact⟨_,rfl,q⟩
  |rt d=>exact⟨_,rfl,q⟩
  |rb d s1=>exact⟨_,rfl,q⟩
  |ex c s1=>exact⟨_,rfl,q⟩
theorem z7n{i:Nat}{b:SS->Option Out}{lo:Int}{m:Nat}{s:SS}(I:Nat->SS->Prop)(h0:I 0 s)(hs:∀n,n<m->∀δ,I n δ->hol (b (δ.set i (some (.sh (.int (lo+(n:Int))))))) fun o=>match o with | .nx δ'=>I (n+1) δ' | .ct δ'=>I (n+1) δ' | .bk δ'=>QO (.nx δ') | .rt d=>QO (.rt d) | .rb d δ'=>QO (.rb d δ') | .ex c δ'=>QO (.ex c δ'))(he:∀δ,I m δ->QO (.nx δ)):hol (y0S i b (z2h lo m) s) QO:=by
 refine y7G I h0 (fun n hn δ hI=>?_) fun δ hI=>he δ (by simpa[z2h] using hI)
 have hn':n<m:=by simpa[z2h] using hn
 have:=hs n hn' δ hI
 simpa[z2h] using this
theorem z3j{α:Type}{enc:α->D}{i:Nat}{b:SS->Option Out}{xs:List α}{s:SS}(I:List α->SS->Prop)(h0:I [] s)(hs:∀pre x post,xs=pre++x::post->∀δ,I pre δ->hol (b (δ.set i (some (.sh (enc x))))) fun o=>match o with | .nx δ'=>I (pre++[x]) δ' | .ct δ'=>I (pre++[x]) δ' | .bk δ'=>QO (.nx δ') | .rt d=>QO (.rt d) | .rb d δ'=>QO (.rb d δ') | .ex c δ'=>QO (.ex c δ'))(he:∀δ,I xs δ->QO (.nx δ)):hol (y0S i b (xs.map enc) s) QO:=by
 refine y7G (fun n δ=>I (xs.take n) δ) (by simpa using h0) (fun n hn δ hI=>?_) fun δ hI=>he δ (by simpa using hI)
 have hn':n<xs.length:=by simpa using hn
 have e:xs=xs.take n++xs[n]::xs.drop (n+1):=by
  rw[←bj hn',eW]
 have:=hs (xs.take n) xs[n] _ e δ hI
 rw[←List.take_succ_eq_append_getElem hn']at this
 rw[bU]
 exact this
end
def o2(F:D->D->Option D):Option D->Option D->Option D
 |some x,some y=>F x y
 |_,_=>none
def andO:Option D->Option D->Option D
 |some (.bl true),y=>y
 |some (.bl false),_=>some (.bl false)
 |_,_=>none
def andT:Option Bool->Option Bool->Option Bool
 |some true,y=>y
 |some false,_=>some false
 |_,_=>none
def orT:Option Bool->Option Bool->Option Bool
 |some true,_=>some true
 |some false,y=>y
 |_,_=>none
def iteO{α:Type}:Option Bool->Option α->Option α->Option α
 |some true,x,_=>x
 |some false,_,y=>y
 |_,_,_=>none
def consA:Option D->Option (List D)->Option (List D)
 |some x,some xs=>some (x::xs)
 |_,_=>none
def y5g:Option D->Option D
 |some d=>if d.imm=true then some d else none
 |none=>none
def z6k:Option (List D)->Option (List D)
 |some ds=>if z1t ds=true then some ds else none
 |none=>none
def y3Q(x:Option Out)(b:SS->Option Out):Option Out:=match x with
 |some (.nx s)=>b s
 |o=>o
def x2S:Option D->Option (List D)
 |some (.int j)=>if -(2 ^ 62)≤j∧j<2 ^ 62 then some (z2h 0 j.toNat)else none
 |_=>none
def rng2:Option D->Option D->Option (List D)
 |some (.int i),some (.int j)=>if -(2 ^ 62)≤i∧i<2 ^ 62∧-(2 ^ 62)≤j∧j<2 ^ 62 then some (z2h i (j - i).toNat)else none
 |_,_=>none
def cut3(x:Option D)(lo hi:Option (Option Int)):Option (List D):=match x,lo,hi with
 |some (.lst ds),some l,some h=>some (z5k ds l h)
 |some (.scr ns),some l,some h=>some (z5k (ns.map .int) l h)
 |_,_,_=>none
def partO:Option D->Option (Option Int)
 |some (.int i)=>some (some i)
 |_=>none
def setO(mk:D->SD)(i:Nat)(x:Option D)(s:SS):Option Out:=match x with
 |some d=>some (.nx (s.set i (some (mk d))))
 |none=>none
def rtO:Option D->Option Out
 |some d=>some (.rt d)
 |none=>none
def forX(i:Nat)(ds:Option (List D))(b:SS->Option Out)(s:SS):Option Out:=match ds with
 |some ds=>y0S i b ds s
 |none=>none
def z8q(i:Nat)(x:Option D)(s:SS):Option Out:=match x with
 |some d=>some (.nx ((z0t i s).set i (some (.ow d))))
 |none=>none
def z1N(fc:DS->Option Bool)(fe:DE)(δ:DS):D->Option (Option D):=fun x=>(fc (δ++[some x])).bind fun k=>if k=true then(fe (δ++[some x])).map some else some none
def z2c(xs:Option (List D))(h:D->Option (Option D)):Option (List D):=match xs with
 |some xs=>if xs.length≤sizeLine then z1d h xs else none
 |none=>none
section
variable{f g h:DE}{δ:DS}{s:SS}{F:D->D->Option D}{c e:DS->Option Bool}{a b:SS->Option Out}{i:Nat}
theorem x1F{x:Option D}{r:DS}:z0c 0 (x::r)=x:=ho_var0
theorem y9k{x:Option D}{r:DS}:z0c (i+1) (x::r)=z0c i r:=(rfl)
theorem ev_C{d:D}:dC d δ=some d:=(rfl)
theorem ev_d2:d2 F f g δ=o2 F (f δ) (g δ):=by
 unfold d2 o2
 cases f δ <;> cases g δ <;> rfl
theorem ev_d1{G:D->Option D}:d1 G f δ=(f δ).bind G:=(rfl)
theorem x0T:z0H f δ=(f δ).bind asB:=by
 unfold z0H
 cases f δ with
 |none=>rfl
 |some d=>cases d <;> rfl
theorem y4M:z0q f δ=(f δ).bind z7p:=(rfl)
theorem y8P:z3e c e δ=andT (c δ) (e δ):=by
 unfold z3e
 rcases c δ with _ | _ | _ <;> rfl
theorem x5a:x0g c e δ=orT (c δ) (e δ):=by
 unfold x0g
 rcases c δ with _ | _ | _ <;> rfl
theorem y8N:z2W c δ=(c δ).map (!·):=(rfl)
theorem x4g:y6Y f g δ=andO (f δ) (g δ):=by
 unfold y6Y andO
 rcases f δ with _ | (_ | (_ | _) | _ | _ | _ | _ | _ | _) <;> rfl
theorem ev_if:dIf c f g δ=iteO (c δ) (f δ) (g δ):=by
 unfold dIf
 rcases c δ with _ | _ | _ <;> rfl
theorem y4w:z0m [] δ=some []:=(rfl)
theorem y4R{r:List DE}:z0m (f::r) δ=consA (f δ) (z0m r δ):=by
 show((f δ).bind fun x=>(z0m r δ).bind fun xs=>some (x::xs))=_
 cases f δ <;> cases z0m r δ <;> rfl
theorem y8g{M:List D->Option D}{fl:List DE}:z0k M fl δ=(z0m fl δ).bind M:=(rfl)
theorem y5m{M:List D->Option (List D)}{fl:List DE}:z4J M fl δ=(z0m fl δ).bind M:=(rfl)
theorem x5b{f:DS->Option (List D)}:mkL f δ=(f δ).map .lst:=(rfl)
theorem x5g{f:DS->Option (List D)}:mkT f δ=(f δ).map .tup:=(rfl)
theorem z7O{f:DS->Option (List D)}:z0w f δ=(z6k (f δ)).map .lst:=by
 unfold z0w z6k
 cases f δ with
 |none=>rfl
 |some ds=>
  show(if z1t ds=true then _ else _)=Option.map _ (if z1t ds=true then _ else _)
  split <;> rfl
theorem ev_is{T:String}:dIs T f δ=(f δ).map fun d=>.bl (isF T d):=(rfl)
theorem x4h:z5I f δ=(f δ).bind y6y:=(rfl)
theorem y7J:z1g f δ=x2S (f δ):=(rfl)
theorem y7g:x2b f g δ=rng2 (f δ) (g δ):=(rfl)
theorem x0f{fi:DS->Option (List D)}:z0K fi c f δ=z2c (fi δ) (z1N c f δ):=by
 unfold z0K z2c
 cases fi δ <;> rfl
theorem y7C:z6n f δ=partO (f δ):=(rfl)
theorem y1X:z2Y δ=some none:=(rfl)
theorem x4E{fl fh:DS->Option (Option Int)}:y7u f fl fh δ=cut3 (f δ) (fl δ) (fh δ):=by
 unfold y7u cut3
 rcases f δ with _ | (_ | _ | _ | _ | _ | _ | _ | _) <;> first | rfl | (cases fl δ <;> cases fh δ <;> rfl)
theorem x1l:z0J a b s=y3Q (a s) b:=by
 unfold z0J y3Q
 rcases a s with _ | (_ | _ | _ | _) <;> rfl
theorem x1N:z1q s=some (.nx s):=(rfl)
theorem y9n:y7a i f s=setO .sh i (f (shV s)) s:=by
 unfold y7a setO
 cases f (shV s) <;> rfl
theorem x1A:z6b i f s=setO .sh i (y5g (f (z0r s))) s:=by
 unfold z6b setO y5g
 cases f (z0r s)with
 |none=>rfl
 |some d=>
  show(if d.imm=true then _ else _)=(match (if d.imm=true then some d else none)with | some d=>some (Out.nx (s.set i (some (SD.sh d)))) | none=>none)
  split <;> rfl
theorem x0C:z5H i f s=setO .ow i (f (z0r s)) s:=by
 unfold z5H setO
 cases f (z0r s) <;> rfl
theorem x1M:z2y f s=rtO (y5g (f (z0r s))):=by
 unfold z2y rtO y5g
 cases f (z0r s)with
 |none=>rfl
 |some d=>
  show(if d.imm=true then _ else _)=(match (if d.imm=true then some d else none)with | some d=>some (Out.rt d) | none=>none)
  split <;> rfl
theorem x0I:z8p f s=rtO (f (z0r s)):=by
 unfold z8p rtO
 cases f (z0r s) <;> rfl
theorem y9j:retS f s=rtO (f (shV s)):=by
 unfold retS rtO
 cases f (shV s) <;> rfl
theorem x0H:y7q i s=rtO (owA i s):=by
 unfold y7q rtO owA
 rcases s[i]? with _ | _ | ⟨x | x | ⟨r,x⟩⟩ <;> rfl
theorem x4z:ifO c a b s=iteO (c (z0r s)) (a s) (b s):=by
 unfold ifO
 rcases c (z0r s)with _ | _ | _ <;> rfl
theorem x0x{fi:DS->Option (List D)}:z9d i fi b s=forX i (fi (shV s)) b s:=by
 unfold z9d forX
 cases fi (shV s) <;> rfl
theorem x4H:frzO i b s=b (x3g i s):=(rfl)
theorem eo_2{x y:D}:o2 F (some x) (some y)=F x y:=(rfl)
theorem x4f{x y:Bool}:andO (some (.bl x)) (some (.bl y))=some (.bl (x&&y)):=by cases x <;> rfl
theorem y9B{y:Option D}:andO (some (.bl false)) y=some (.bl false):=(rfl)
theorem y7N{x y:Bool}:andT (some x) (some y)=some (x&&y):=by cases x <;> rfl
theorem y5i{y:Option Bool}:andT (some false) y=some false:=(rfl)
theorem x4v{x y:Bool}:orT (some x) (some y)=some (x||y):=by cases x <;> rfl
theorem y9Z{y:Option Bool}:orT (some true) y=some true:=(rfl)
theorem x0t{α:Type}{x y:Option α}:iteO (some true) x y=x:=(rfl)
theorem x1z{α:Type}{x y:Option α}:iteO (some false) x y=y:=(rfl)
theorem y9J{x:D}{xs:List D}:consA (some x) (some xs)=some (x::xs):=(rfl)
theorem eo_nx:y3Q (some (.nx s)) b=b s:=(rfl)
theorem eo_rt{d:D}:y3Q (some (.rt d)) b=some (.rt d):=(rfl)
theorem x4D{mk:D->SD}{d:D}:setO mk i (some d) s=some (.nx (s.set i (some (mk d)))):=(rfl)
theorem x4d{d:D}:rtO (some d)=some (.rt d):=(rfl)
theorem x4q{ds:List D}:forX i (some ds) b s=y0S i b ds s:=(rfl)
theorem y8Z{n:Int}:y5g (some (.int n))=some (.int n):=(rfl)
theorem x1a{n:Bool}:y5g (some (.bl n))=some (.bl n):=(rfl)
theorem y8s{x:Str}:y5g (some (.str x))=some (.str x):=(rfl)
theorem y2l{d:D}(h:d.imm=true):y5g (some d)=some d:=if_pos h
theorem z1o{ds:List D}(h:z1t ds=true):z6k (some ds)=some ds:=if_pos h
theorem x0k{n:Int}:partO (some (.int n))=some (some n):=(rfl)
theorem x1G{ns:List Int}{l h:Option Int}:cut3 (some (.scr ns)) (some l) (some h)=some (z5k (ns.map .int) l h):=(rfl)
theorem z8a{n:Int}(h:-(2 ^ 62)≤n∧n<2 ^ 62):x2S (some (.int n))=some (z2h 0 n.toNat):=if_pos h
theorem eo_rng2{m n:Int}(h:-(2 ^ 62)≤m∧m<2 ^ 62∧-(2 ^ 62)≤n∧n<2 ^ 62):rng2 (some (.int m)) (some (.int n))=some (z2h m (n - m).toNat):=if_pos h
theorem z2j{xs:List D}{k:D->Option (Option D)}(h:xs.length≤1000000):z2c (some xs) k=z1d k xs:=if_pos (z1T h)
section
variable{m n:Int}{p:Bool}{ds:List D}{ns:List Int}
theorem y1n:z8o (.int m) (.int n)=some (.int (m+n)):=(rfl)
theorem y4b:y4g (.int m) (.int n)=some (.int (m - n)):=(rfl)
theorem x1s(h:CMul m n):y9Q (.int m) (.int n)=some (.int (m*n)):=if_pos h
theorem z5B(h:CDiv m n):z6Z (.int m) (.int n)=some (.int (m / n)):=if_pos h
theorem z1Q(h:0<n):z2J (.int m) (.int n)=some (.int (m % n)):=if_pos h
theorem ea_pow(h:CPow m n):x1W (.int m) (.int n)=some (.int (m ^ n.toNat)):=if_pos h
theorem ea_lt:ltI (.int m) (.int n)=some (.bl (decide (m<n))):=(rfl)
theorem ea_le:leI (.int m) (.int n)=some (.bl (decide (m≤n))):=(rfl)
theorem x3I:gtI (.int m) (.int n)=some (.bl (decide (n<m))):=(rfl)
theorem y5D:eqD (.int m) (.int n)=some (.bl (decide (m=n))):=(rfl)
theorem x4T:neD (.int m) (.int n)=some (.bl (!decide (m=n))):=(rfl)
theorem x4c:x3f (.int m)=some (.int (-m)):=(rfl)
theorem x4w:uNot (.bl p)=some (.bl (!p)):=(rfl)
theorem y9N:z7p (.bl p)=some p:=(rfl)
theorem y8c:y6y (.lst ds)=some ds:=(rfl)
theorem y9U:y6y (.tup ds)=some ds:=(rfl)
theorem z9M:z2t [.lst ds]=some (.int (ds.length:Int)):=(rfl)
theorem x5E:ixD (.lst ds) (.int m)=atI ds m:=(rfl)
theorem x4i:ixD (.tup ds) (.int m)=atI ds m:=(rfl)
theorem x5c:ixD (.scr ns) (.int m)=(atI ns m).map .int:=(rfl)
theorem y8K:isF "bool" (.bl p)=true:=(rfl)
theorem x0q:isF "bool" (.int m)=false:=(rfl)
theorem y8H:isF "int" (.int m)=true:=(rfl)
theorem y3C:isF "tuple" (.tup ds)=true:=(rfl)
theorem x5n:asB (.bl p)=some p:=(rfl)
end
theorem eb_bs{α β:Type}{a:α}{k:α->Option β}:(some a).bind k=k a:=(rfl)
theorem eb_ms{α β:Type}{a:α}{k:α->β}:(some a).map k=some (k a):=(rfl)
theorem eb_mn{α β:Type}{k:α->β}:(none:Option α).map k=none:=(rfl)
theorem eb_s0{α:Type}{x y:α}{r:List α}:(x::r).set 0 y=y::r:=(rfl)
theorem eb_sS{α:Type}{n:Nat}{x y:α}{r:List α}:(x::r).set (n+1) y=x::r.set n y:=(rfl)
theorem eb_mc{α β:Type}{x:α}{r:List α}{k:α->β}:(x::r).map k=k x::r.map k:=(rfl)
theorem y9d{α β:Type}{k:α->β}:([]:List α).map k=[]:=(rfl)
theorem eb_rS{α:Type}{n:Nat}{x:α}:ai (n+1) x=x::ai n x:=(rfl)
theorem eb_r0{α:Type}{x:α}:ai 0 x=[]:=(rfl)
theorem eb_ca{α:Type}{x:α}{r t:List α}:(x::r)++t=x::(r++t):=(rfl)
theorem eb_na{α:Type}{t:List α}:[]++t=t:=(rfl)
theorem y7F:z0r []=[]:=(rfl)
theorem y8Y{x:Option SD}{r:SS}:z0r (x::r)=x.map SD.val::z0r r:=(rfl)
theorem x5d:shV []=[]:=(rfl)
theorem x4x{x:Option SD}{r:SS}:shV (x::r)=shO x::shV r:=(rfl)
theorem x3Z{d:D}:shO (some (.sh d))=some d:=(rfl)
theorem y4K:z0t i []=[]:=(rfl)
theorem y4f{x:Option SD}{r:SS}:z0t i (x::r)=y3n i x::z0t i r:=(rfl)
theorem y2r{d:D}:y3n i (some (.sh d))=some (.sh d):=(rfl)
theorem y1r{d:D}:y3n i (some (.ow d))=some (.ow d):=(rfl)
theorem y4l:y3n i none=none:=(rfl)
theorem x4N{d:D}{r:SS}:owA 0 (some (.ow d)::r)=some d:=(rfl)
theorem x4n{x:Option SD}{r:SS}:owA (i+1) (x::r)=owA i r:=(rfl)
end
def y6l:Option (List D)->Option (List D):=z6k
def st0V(o k v:Option D):Option D:=match o,k,v with
 |some (.lst ds),some (.int k),some d=>(ixN ds.length k).map fun j=>.lst (ds.set j d)
 |_,_,_=>none
def st1V(o k j v:Option D):Option D:=match o,k,j,v with
 |some (.lst ds),some (.int k),some (.int j),some d=>(ixN ds.length k).bind fun k'=>(match ds[k']? with
  |some (.lst es)=>if z1t es=true then(ixN es.length j).map fun j'=>.lst (ds.set k' (.lst (es.set j' d)))else none
  |_=>none)
 |_,_,_,_=>none
def m0V(M:List D->List D->Option (List D))(o:Option D)(args:Option (List D)):Option D:=match o,args with
 |some (.lst ds),some args=>(M ds args).map .lst
 |_,_=>none
def m1V(M:List D->List D->Option (List D))(o k:Option D)(args:Option (List D)):Option D:=match o,k,args with
 |some (.lst ds),some (.int k),some args=>(ixN ds.length k).bind fun j=>(match ds[j]? with
  |some (.lst es)=>if z1t es=true then(z6k (M es args)).map fun es'=>.lst (ds.set j (.lst es'))else none
  |_=>none)
 |_,_,_=>none
section
variable{fk fj fv:DE}{s:SS}{i:Nat}{M:List D->List D->Option (List D)}{fl:List DE}
theorem x5w{d:D}:z8q i (some d) s=some (.nx ((z0t i s).set i (some (.ow d)))):=(rfl)
theorem y0i{ds:List D}(h:z1t ds=true):y6l (some ds)=some ds:=if_pos h
def kI:D->Option Int
 |.int k=>some k
 |_=>none
def kL:D->Option (List D)
 |.lst ds=>some ds
 |_=>none
def kW:Option (Option SD)->Option D
 |some (some (.ow d))=>some d
 |_=>none
theorem x4R:owA i s=kW s[i]?:=by
 unfold owA kW
 generalize s[i]? = x
 rcases x with _ | _ | ⟨x | x | ⟨r,x⟩⟩ <;> rfl
theorem mt2{β:Type}{k:D}{x:Option (Option SD)}{F:Int->List D->Option β}:(match k,x with | .int k,some (some (.ow (.lst ds)))=>F k ds | _,_=>none)=(kI k).bind fun k=>((kW x).bind kL).bind fun ds=>F k ds:=by
 cases k with
 |int k=>rcases x with _ | _ | ⟨x | x | ⟨r,x⟩⟩ <;> first | rfl | (cases x <;> rfl)
 |_=>rfl
theorem mt3{β:Type}{k j:D}{x:Option (Option SD)}{F:Int->Int->List D->Option β}:(match k,j,x with | .int k,.int j,some (some (.ow (.lst ds)))=>F k j ds | _,_,_=>none)=(kI k).bind fun k=>(kI j).bind fun j=>((kW x).bind kL).bind fun ds=>F k j ds:=by
 cases k with
 |int k=>
  cases j with
  |int j=>rcases x with _ | _ | ⟨x | x | ⟨r,x⟩⟩ <;> first | rfl | (cases x <;> rfl)
  |_=>rfl
 |_=>rfl
theorem st0V_k{o k v:Option D}:st0V o k v=(o.bind kL).bind fun ds=>(k.bind kI).bind fun k=>v.bind fun d=>(ixN ds.length k).map fun j=>.lst (ds.set j d):=by
 rcases o with _ | o
 ·rfl
 ·cases o with
  |lst ds=>
   rcases k with _ | k
   ·rfl
   ·cases k with
    |int k=>cases v <;> rfl
    |_=>rfl
  |_=>rfl
theorem x5j{o k j v:Option D}:st1V o k j v=(o.bind kL).bind fun ds=>(k.bind kI).bind fun k=>(j.bind kI).bind fun j=>v.bind fun d=>(ixN ds.length k).bind fun k'=>(match ds[k']? with
  |some (.lst es)=>if z1t es=true then(ixN es.length j).map fun j'=>.lst (ds.set k' (.lst (es.set j' d)))else none
  |_=>none):=by
 rcases o with _ | o
 ·rfl
 ·cases o with
  |lst ds=>
   rcases k with _ | k
   ·rfl
   ·cases k with
    |int k=>
     rcases j with _ | j
     ·rfl
     ·cases j with
      |int j=>cases v <;> rfl
      |_=>rfl
    |_=>rfl
  |_=>rfl
theorem y8v{α:Type}{x:Option α}{F:α->Option D}:z8q i (x.bind F) s=x.bind fun a=>z8q i (F a) s:=by cases x <;> rfl
theorem z3g{α β:Type}{x:Option α}:(x.bind fun _=>(none:Option β))=none:=by cases x <;> rfl
theorem x4J:st0 i fk fv s=z8q i (st0V (owA i s) (fk (z0r s)) (y5g (fv (z0r s)))) s:=by
 have e:st0 i fk fv s=(fv (z0r s)).bind fun d=>if d.imm=true then(fk (z0r s)).bind fun dk=>(kI dk).bind fun k=>((kW s[i]?).bind kL).bind fun ds=>(ixN ds.length k).map fun j=>.nx ((z0t i s).set i (some (.ow (.lst (ds.set j d)))))else none:=by
  refine congrArg (Option.bind (fv (z0r s))) (funext fun d=>?_)
  refine congrArg (fun z=>if d.imm=true then z else none) ?_
  refine congrArg (Option.bind (fk (z0r s))) (funext fun dk=>?_)
  exact mt2 (F:=fun k ds=>(ixN ds.length k).map fun j=>Out.nx ((z0t i s).set i (some (.ow (.lst (ds.set j d))))))
 rw[e,st0V_k,x4R]
 simp only[y8v]
 generalize (kW s[i]?).bind kL=x
 rcases fv (z0r s)with _ | d
 ·show none=x.bind fun ds=>((fk (z0r s)).bind kI).bind fun k=>(none:Option Out)
  simp only[z3g]
 ·show(if d.imm=true then(fk (z0r s)).bind fun dk=>_ else none)=x.bind fun ds=>((fk (z0r s)).bind kI).bind fun k=>(if d.imm=true then some d else none).bind fun d=>_
  split
  ·rcases fk (z0r s)with _ | k
   ·simp only[bG,z3g]
   ·simp only[aj]
    cases kI k with
    |none=>simp only[bG,z3g]
    |some k=>
     simp only[aj]
     cases x with
     |none=>rfl
     |some ds=>
      simp only[aj]
      cases ixN ds.length k <;> rfl
  ·simp only[bG,z3g]
theorem kO{k j:Int}{d:D}{ds:List D}:((ixN ds.length k).bind fun k'=>(match ds[k']? with
   |some (.lst es)=>if z1t es=true then(ixN es.length j).map fun j'=>Out.nx ((z0t i s).set i (some (.ow (.lst (ds.set k' (.lst (es.set j' d)))))))else none
   |_=>none))=z8q i (st1V (some (.lst ds)) (some (.int k)) (some (.int j)) (some d)) s:=by
 show _=z8q i ((ixN ds.length k).bind _) s
 cases ixN ds.length k with
 |none=>rfl
 |some k'=>
  rw[aj,aj]
  cases ds[k']? with
  |none=>rfl
  |some y=>
   cases y with
   |lst es=>
    dsimp only
    split
    ·cases ixN es.length j <;> rfl
    ·rfl
   |_=>rfl
theorem x5B:st1 i fk fj fv s=z8q i (st1V (owA i s) (fk (z0r s)) (fj (z0r s)) (y5g (fv (z0r s)))) s:=by
 have e:st1 i fk fj fv s=(fv (z0r s)).bind fun d=>if d.imm=true then(fk (z0r s)).bind fun dk=>(fj (z0r s)).bind fun dj=>(kI dk).bind fun k=>(kI dj).bind fun j=>((kW s[i]?).bind kL).bind fun ds=>(ixN ds.length k).bind fun k'=>(match ds[k']? with
   |some (.lst es)=>if z1t es=true then(ixN es.length j).map fun j'=>.nx ((z0t i s).set i (some (.ow (.lst (ds.set k' (.lst (es.set j' d)))))))else none
   |_=>none)else none:=by
  refine congrArg (Option.bind (fv (z0r s))) (funext fun d=>?_)
  refine congrArg (fun z=>if d.imm=true then z else none) ?_
  refine congrArg (Option.bind (fk (z0r s))) (funext fun dk=>?_)
  refine congrArg (Option.bind (fj (z0r s))) (funext fun dj=>?_)
  exact mt3 (F:=fun k j ds=>(ixN ds.length k).bind fun k'=>(match ds[k']? with
   |some (.lst es)=>if z1t es=true then(ixN es.length j).map fun j'=>Out.nx ((z0t i s).set i (some (.ow (.lst (ds.set k' (.lst (es.set j' d)))))))else none
   |_=>none))
 rw[e,x5j,x4R]
 simp only[y8v]
 generalize (kW s[i]?).bind kL=x
 rcases fv (z0r s)with _ | d
 ·show none=x.bind fun ds=>((fk (z0r s)).bind kI).bind fun k=>((fj (z0r s)).bind kI).bind fun j=>(none:Option Out)
  simp only[z3g]
 ·show(if d.imm=true then(fk (z0r s)).bind fun dk=>_ else none)=x.bind fun ds=>((fk (z0r s)).bind kI).bind fun k=>((fj (z0r s)).bind kI).bind fun j=>(if d.imm=true then some d else none).bind fun d=>_
  split
  ·rcases fk (z0r s)with _ | k
   ·simp only[bG,z3g]
   ·simp only[aj]
    rcases fj (z0r s)with _ | j
    ·simp only[bG,z3g]
    ·simp only[aj]
     cases kI k with
     |none=>simp only[bG,z3g]
     |some k=>
      cases kI j with
      |none=>simp only[bG,aj,z3g]
      |some j=>
       simp only[aj]
       cases x with
       |none=>rfl
       |some ds=>
        have:=kO (i:=i) (s:=s) (k:=k) (j:=j) (d:=d) (ds:=ds)
        rw[x5j]at this
        simp only[aj,y8v,kL,kI]at this
        simp only[aj]
        exact this
  ·simp only[bG,z3g]
theorem ev_m0:m0 i M fl s=z8q i (m0V M (owA i s) (y6l (z0m fl (z0r s)))) s:=by
 unfold m0 owA
 rcases z0m fl (z0r s)with _ | args
 ·rcases s[i]? with _ | _ | ⟨x | x | ⟨r,x⟩⟩ <;> (first | rfl | (cases x <;> rfl))
 ·show(if z1t args=true then _ else _)=z8q i (m0V M _ (if z1t args=true then some args else none)) s
  split
  ·rcases s[i]? with _ | _ | ⟨x | x | ⟨r,x⟩⟩ <;> (first | rfl | (cases x <;> first | rfl | (rename_i ds;show Option.map _ (M ds args)=z8q i (Option.map _ (M ds args)) s;cases M ds args <;> rfl)))
  ·rcases s[i]? with _ | _ | ⟨x | x | ⟨r,x⟩⟩ <;> (first | rfl | (cases x <;> rfl))
theorem m_m1{k:Int}{ds args:List D}:((ixN ds.length k).bind fun j=>(match ds[j]? with
   |some (.lst es)=>if z1t es=true then(M es args).bind fun es'=>if z1t es'=true then some (Out.nx ((z0t i s).set i (some (.ow (.lst (ds.set j (.lst es')))))))else none else none
   |_=>none))=z8q i (m1V M (some (.lst ds)) (some (.int k)) (some args)) s:=by
 show _=z8q i ((ixN ds.length k).bind _) s
 cases ixN ds.length k with
 |none=>rfl
 |some k'=>
  rw[aj,aj]
  cases ds[k']? with
  |none=>rfl
  |some y=>
   cases y with
   |lst es=>
    dsimp only
    split
    ·cases M es args with
     |none=>rfl
     |some es'=>
      show(if z1t es'=true then _ else _)=z8q i (Option.map _ (if z1t es'=true then _ else _)) s
      split <;> rfl
    ·rfl
   |_=>rfl
theorem ev_m1:m1 i fk M fl s=z8q i (m1V M (owA i s) (fk (z0r s)) (y6l (z0m fl (z0r s)))) s:=by
 unfold m1 owA
 rcases z0m fl (z0r s)with _ | args
 ·rcases fk (z0r s)with _ | (_ | _ | _ | _ | _ | _ | _ | _) <;> rcases s[i]? with _ | _ | ⟨x | x | ⟨r,x⟩⟩ <;> (first | rfl | (cases x <;> rfl))
 ·show _=z8q i (m1V M _ _ (if z1t args=true then some args else none)) s
  by_cases h:z1t args=true
  ·rw[if_pos h]
   rcases fk (z0r s)with _ | (_ | _ | k | _ | _ | _ | _ | _) <;> rcases s[i]? with _ | _ | ⟨x | x | ⟨r,x⟩⟩ <;> (first | rfl | (cases x <;> first | rfl | exact(if_pos h).trans m_m1 | exact if_pos h) | exact if_pos h)
  ·rw[if_neg h]
   rcases fk (z0r s)with _ | (_ | _ | k | _ | _ | _ | _ | _) <;> rcases s[i]? with _ | _ | ⟨x | x | ⟨r,x⟩⟩ <;> (first | rfl | (cases x <;> first | rfl | exact if_neg h) | exact if_neg h)
end
theorem es_v1{d:D}:(SD.sh d).val=d:=(rfl)
theorem es_v2{d:D}:(SD.ow d).val=d:=(rfl)
theorem y8y{bs:List Bool}:allF [.lst (bs.map bD)]=some (.bl (bs.all fun b=>b)):=by
 show(z6L (bs.map bD)).map (fun bs=>D.bl (bs.all fun b=>b))=_
 rw[z7i]
 rfl
theorem ea_any{bs:List Bool}:anyF [.lst (bs.map bD)]=some (.bl (bs.any fun b=>b)):=by
 show(z6L (bs.map bD)).map (fun bs=>D.bl (bs.any fun b=>b))=_
 rw[z7i]
 rfl
theorem z5g:∀ns:List Int,z2d (ns.map D.int)=some ns
 |[]=>rfl
 |n::ns=>by
  show(z2d (ns.map D.int)).map (n :: ·)=_
  rw[z5g ns]
  rfl
theorem x5v{ns:List Int}:sumF [.lst (ns.map .int)]=some (.int ns.sum):=by
 show(z2d (ns.map D.int)).map (fun ns=>D.int ns.sum)=_
 rw[z5g]
 rfl
theorem x3x{T:List (List Bool)}{a b:Nat}{v:Bool}(ha:a<T.length)(hb:b<T[a].length):st1V (some (z0G T)) (some (.int (a:Int))) (some (.int (b:Int))) (some (.bl v))=some (z0G (T.set a (T[a].set b v))):=by
 show((ixN (T.map z3Q).length (a:Int)).bind fun k'=>(match (T.map z3Q)[k']? with
  |some (.lst es)=>if z1t es=true then(ixN es.length (b:Int)).map fun j'=>D.lst ((T.map z3Q).set k' (.lst (es.set j' (.bl v))))else none
  |_=>none))=_
 rw[y3F (by simpa using ha),aj]
 have e1:(T.map z3Q)[a]? = some (.lst (T[a].map bD)):=by rw[ay,ac ha];rfl
 rw[e1]
 dsimp only
 rw[if_pos (z1V _),y3F (by simpa using hb),bx]
 unfold z0G
 rw[cY]
 unfold z3Q
 rw[cY]
 rfl
theorem z5t{α β:Type}{f:α->β}:∀{xs:List α} {i:Nat},(xs.map f).eraseIdx i=(xs.eraseIdx i).map f
 |[],_=>rfl
 |_::_,0=>rfl
 |x::r,i+1=>congrArg (f x :: ·) (z5t (xs:=r) (i:=i))
theorem x3b(ns:List Int)(lo hi:Option Int):∃cs:List Int,z5k (ns.map .int) lo hi=cs.map .int∧cs.length≤ns.length:=by
 refine⟨(ns.drop (HT.sIx ns.length 0 lo)).take (HT.sIx ns.length ns.length hi - HT.sIx ns.length 0 lo),?_,by simp;omega⟩
 unfold z5k
 rw[ah,dg,dh]
theorem y3y(n:Nat)(h:n≤1000):x1W (.int 10) (.int (n:Int))=some (.int (10 ^ n)):=by
 rw[ea_pow (show CPow 10 (n:Int) from⟨by omega,by omega,by decide⟩),cw]
theorem z2C{T:List (List Bool)}:z2t [z0G T]=some (.int (T.length:Int)):=by
 show some (D.int ((T.map z3Q).length:Nat))=_
 rw[ah]
theorem ix_tab{T:List (List Bool)}{k:Nat}(h:k<T.length):ixD (z0G T) (.int (k:Int))=some (z3Q T[k]):=tab_ix h
theorem ix_row{r:List Bool}{k:Nat}(h:k<r.length):ixD (z3Q r) (.int (k:Int))=some (.bl r[k]):=row_ix h
theorem z5a{x:Int}{n:Nat}(h:0<n):∃a:Nat,x % (n:Int)=(a:Int)∧a<n:=by
 have h1:=d9 x (show(n:Int)≠0 by omega)
 have h2:=dA x (show(0:Int)<n by omega)
 exact⟨(x % (n:Int)).toNat,by omega,by omega⟩
theorem z7r{α:Type}{enc:α->D}{c:DS->Option Bool}{f:DE}{δ:DS}(p:α->Bool)(g:α->D):∀{xs:List α},(∀x∈xs,c (δ++[some (enc x)])=some (p x))->(∀x∈xs,p x=true->f (δ++[some (enc x)])=some (g x))->z1d (z1N c f δ) (xs.map enc)=some ((xs.filter p).map g)
 |[],_,_=>rfl
 |x::r,hc,hf=>by
  have ih:=z7r (xs:=r) p g (fun y hy=>hc y (ae _ hy)) fun y hy=>hf y (ae _ hy)
  rw[aC]
  unfold z1d
  rw[ih]
  unfold z1N
  rw[hc x af]
  cases hp:p x with
  |true=>
   show((if true=true then(f (δ++[some (enc x)])).map some else some none).bind _)=_
   rw[if_pos rfl,hf x af hp,ck hp]
   rfl
  |false=>
   rw[cq (by rw[hp];exact ar)]
   rfl
theorem z1F{α:Type}{enc:α->D}{f:DE}{δ:DS}(g:α->D){xs:List α}(hf:∀x∈xs,f (δ++[some (enc x)])=some (g x)):z1d (z1N z3p f δ) (xs.map enc)=some (xs.map g):=by
 rw[z7r (fun _=>true) g (fun _ _=>rfl) fun x hx _=>hf x hx,bF.mpr fun _ _=>rfl]
def nD(n:Nat):D:=.int (n:Int)
theorem z1l{n:Nat}:z2h 0 n=(ad n).map nD:=by
 unfold z2h nD
 refine bp fun k _=>?_
 rw[eY]
theorem y7S{n k:Nat}(h:k<n):ixN n (k:Int)=some k:=y3F h
def z8N:Option (List D)->Option (List D)
 |some ds=>if ds.length≤sizeLine then some ds else none
 |none=>none
theorem y4D{g:DS->Option (List D)}{δ:DS}:z4G g δ=z8N (g δ):=by
 unfold z4G z8N
 cases g δ <;> rfl
theorem y0k{ds:List D}(h:ds.length≤1000000):z8N (some ds)=some ds:=if_pos (z1T h)
theorem x1Q{α:Type}{xs:List α}{x:α}:atI (xs++[x]) (-1)=some x:=by
 unfold atI ixN
 rw[if_neg (by omega),aD,eX,if_pos (by omega)]
 have e:(-1+((xs.length+1:Nat):Int)).toNat=xs.length:=by omega
 rw[e]
 simp
def z2i(o:List Int):D:=.tup (o.map .int)
def z1f(b:Int×List Int):D:=.tup [.int b.1,z2i b.2]
def z1P(bs:List (Int×List Int)):D:=.lst (bs.map z1f)
theorem z2v:∀o:List Int,z1t (o.map D.int)=true
 |[]=>rfl
 |n::o=>by
  show(true&&z1t (o.map D.int))=true
  rw[z2v o]
  rfl
theorem imm_ord(o:List Int):(z2i o).imm=true:=z2v o
theorem imm_bal(b:Int×List Int):(z1f b).imm=true:=by
 show(true&&((z2i b.2).imm&&true))=true
 rw[imm_ord]
 rfl
theorem z2K:∀bs:List (Int×List Int),z1t (bs.map z1f)=true
 |[]=>rfl
 |b::bs=>by
  show((z1f b).imm&&z1t (bs.map z1f))=true
  rw[imm_bal,z2K bs]
  rfl
theorem z7j{b:Int×List Int}:ixD (z1f b) (.int 0)=some (.int b.1):=(rfl)
theorem z6e{b:Int×List Int}:ixD (z1f b) (.int 1)=some (z2i b.2):=(rfl)
theorem z9V{bs:List (Int×List Int)}:y6y (z1P bs)=some (bs.map z1f):=(rfl)
theorem seq_ord{o:List Int}:y6y (z2i o)=some (o.map .int):=(rfl)
theorem x0Q{o:List Int}:z2t [z2i o]=some (.int (o.length:Int)):=by
 show some (D.int ((o.map D.int).length:Nat))=_
 rw[ah]
theorem y4Q:∀o:List Int,PyData.canLayAll0 (z8K (o.map D.int))=true
 |[]=>rfl
 |n::o=>by
  show(true&&PyData.canLayAll0 (z8K (o.map D.int)))=true
  rw[y4Q o]
  rfl
theorem y4y:∀o:List Int,PyData.depthAll (z8K (o.map D.int))=0
 |[]=>rfl
 |n::o=>by
  show max 0 (PyData.depthAll (z8K (o.map D.int)))=0
  rw[y4y o]
  rfl
theorem z0z{x:Option Out}{b:SS->Option Out}{I:SS->Prop}{Q:Out->Prop}(h:hol x fun o=>∃s,o = .nx s∧I s)(k:∀s,I s->hol (b s) Q):hol (y3Q x b) Q:=by
 obtain⟨o,rfl,s,rfl,q⟩:=h
 exact k s q
theorem z6V{bs:List (Int×List Int)}{b:Int×List Int}(hl:bs.length≤1000000):m0V y0U (some (z1P bs)) (some [z1f b])=some (z1P (bs++[b])):=by
 show Option.map _ (if(bs.map z1f).length<sizeLine then some (bs.map z1f++[z1f b])else none)=_
 rw[ah,if_pos (by rw[PySem.sizeLine_eq];omega)]
 unfold z1P
 rw[aF]
 rfl
def z5E(m:Nat):List Int:=(ad m).map fun k=>((k:Nat):Int)
theorem y3J{m:Nat}:D.tup (z2h 0 m)=z2i (z5E m):=by
 rw[z1l]
 unfold z2i z5E
 rw[aJ]
 rfl
structure Good(m:Nat)(b:Int×List Int):Prop where
 lo:1≤b.1
 hi:b.1≤10 ^ 30
 perm:b.2.Perm (z5E m)
def plc(o:List Int)(a:Int):Nat:=o.findIdx fun n=>n==a
def ahd(o:List Int)(a b:Int):Bool:=decide (plc o a<plc o b)
theorem x3D{o:List Int}{a:Int}(h:a∈o):o.findIdx? (fun n=>n==a)=some (plc o a):=by
 unfold plc
 rw[List.findIdx?_eq_some_iff_findIdx_eq]
 exact⟨cv ⟨a,h,by simp⟩,rfl⟩
theorem z9x{o:List Int}{a:Int}(h:a∈o):tixF (z2i o) (.int a)=some (.int (plc o a:Int)):=by
 show(z2d (o.map D.int)).bind _=_
 rw[z5g,aj,x3D h]
 rfl
theorem y5I{o:List Int}{a:Int}(h:a∈o):plc o a<o.length:=cv ⟨a,h,by simp⟩
theorem x1E{o:List Int}{a:Int}(h:a∈o):o[plc o a]'(y5I h)=a:=by
 have:=List.findIdx_getElem (p:=fun n=>n==a) (xs:=o) (w:=y5I h)
 exact eq_of_beq this
theorem plc_ne{o:List Int}{a b:Int}(ha:a∈o)(hb:b∈o)(h:a≠b):plc o a≠plc o b:=fun e=>h (by
 have h1:=x1E ha
 have h2:=x1E hb
 rw[←h1,←h2]
 congr 1)
theorem x0z{o:List Int}{a b:Int}(ha:a∈o)(hb:b∈o)(h:a≠b):ahd o b a = !ahd o a b:=by
 have:=plc_ne ha hb h
 unfold ahd
 rw[←decide_not]
 congr 1
 rw[eq_iff_iff]
 omega
def y0T(bs:List (Int×List Int))(a b:Int):Int:=(bs.map fun x=>if ahd x.2 a b=true then x.1 else -x.1).sum
def z6t(bs:List (Int×List Int)):Int:=(bs.map (·.1)).sum
theorem y9p{a b:Int}(hab:a≠b):∀bs:List (Int×List Int),(∀x∈bs,a∈x.2∧b∈x.2)->z6t (bs.filter fun x=>ahd x.2 a b) - z6t (bs.filter fun x=>ahd x.2 b a)=y0T bs a b
 |[],_=>rfl
 |x::bs,h=>by
  have ih:=y9p hab bs fun y hy=>h y (ae _ hy)
  obtain⟨ha,hb⟩:=h x af
  have hn:=x0z ha hb hab
  unfold z6t y0T at *
  rw[aC,bI,←ih]
  cases hp:ahd x.2 a b with
  |true=>
   rw[hp]at hn
   rw[ck (by simpa using hp),cq (by rw[hn];decide)]
   simp
   omega
  |false=>
   rw[hp]at hn
   rw[cq (by rw[hp];decide),ck (by rw[hn];decide)]
   simp
   omega
theorem y8E{a b:Int}:∀bs:List (Int×List Int),y0T bs a b % 2=z6t bs % 2
 |[]=>rfl
 |x::bs=>by
  have ih:=y8E (a:=a) (b:=b) bs
  unfold y0T z6t at *
  rw[aC,aC,bI,bI]
  split <;> omega
def at2(T:List (List Bool))(i j:Nat):Bool:=(T.getD i []).getD j false
def thD(th:List Nat):D:=.lst (th.map nD)
theorem z9i{T:List (List Bool)}{i:Nat}(h:i<T.length):ixD (z0G T) (.int (i:Int))=some (z3Q (T.getD i [])):=by
 rw[ix_tab h]
 simp[aZ,ac h]
theorem z9v{r:List Bool}{j:Nat}(h:j<r.length):ixD (z3Q r) (.int (j:Int))=some (.bl (r.getD j false)):=by
 rw[ix_row h]
 simp[aZ,ac h]
theorem Sq.len{n:Nat}{T:List (List Bool)}(h:Sq n T){i:Nat}(hi:i<n):(T.getD i []).length=n:=by
 have h1:i<T.length:=by rw[h.1];exact hi
 have:T.getD i []=T[i]:=by simp[aZ,ac h1]
 rw[this]
 exact h.row h1
theorem ix2{n:Nat}{T:List (List Bool)}(h:Sq n T){i j:Nat}(hi:i<n)(hj:j<n):o2 ixD (ixD (z0G T) (.int (i:Int))) (some (.int (j:Int)))=some (.bl (at2 T i j)):=by
 rw[z9i (by rw[h.1];exact hi),eo_2,z9v (by rw[h.len hi];exact hj)]
 rfl
def z0O(th:List Nat)(f:Nat->Nat->Bool):List (List Bool):=th.map fun i=>th.map fun j=>f i j
theorem y0u{α β:Type}{f:α->β}{xs:List α}{i:Nat}{d:β}(h:i<xs.length):(xs.map f).getD i d=f xs[i]:=by
 simp[aZ,h]
theorem z7S{th:List Nat}{f:Nat->Nat->Bool}:Sq th.length (z0O th f):=by
 refine⟨by simp[z0O],fun r hr=>?_⟩
 obtain⟨i,_,rfl⟩:=aP.mp hr
 simp
theorem at_grid{n:Nat}{f:Nat->Nat->Bool}{i j:Nat}(hi:i<n)(hj:j<n):at2 (z0O (ad n) f) i j=f i j:=by
 unfold at2 z0O
 rw[y0u (by simpa using hi),y0u (by simpa using hj)]
 simp
theorem grid_of{n:Nat}{T:List (List Bool)}(h:Sq n T):z0O (ad n) (at2 T)=T:=by
 unfold z0O
 apply bi
 ·simp[h.1]
 ·intro i h1 h2
  have hi:i<n:=by simpa using h1
  rw[bU]
  have hrow:T[i].length=n:=h.row h2
  apply bi
  ·simp[hrow]
  ·intro j h3 h4
   have hj:j<n:=by simpa using h3
   rw[bU]
   unfold at2
   simp[aZ,ac h2,ac h4]
theorem seq_tab{T:List (List Bool)}:y6y (z0G T)=some (T.map z3Q):=(rfl)
theorem z4E{th:List Nat}:y6y (thD th)=some (th.map nD):=(rfl)
theorem y2o{th:List Nat}:z2t [thD th]=some (.int (th.length:Int)):=by
 show some (D.int ((th.map nD).length:Nat))=_
 rw[ah]
theorem y2u:∀th:List Nat,z1t (th.map nD)=true
 |[]=>rfl
 |n::th=>by
  show(true&&z1t (th.map nD))=true
  rw[y2u th]
  rfl
theorem okP_th(th:List Nat):okP (thD th)=true:=by
 have e:th.map nD=(th.map fun n=>((n:Nat):Int)).map D.int:=by rw[aJ];rfl
 unfold okP thD
 rw[e,aE,decide_eq_true_eq]
 refine⟨y4Q _,?_⟩
 show PyData.depthAll (z8K ((th.map fun n=>((n:Nat):Int)).map D.int))+1≤60
 rw[y4y]
 decide
theorem ne_self{d:D}(h:okP d=true):neD d d=some (.bl false):=by
 unfold neD
 rw[h]
 show(if(true&&true)=true then some (D.bl (!PyData.eqv (toP d) (toP d)))else none)=_
 rw[if_pos (show(true&&true)=true from rfl),SeqAt.eqv_refl _ (z0u h).1]
 rfl
theorem app_thV{th:List Nat}{k:Nat}(hl:th.length≤1000000):m0V y0U (some (thD th)) (some [.int (k:Int)])=some (thD (th++[k])):=by
 show Option.map _ (if(th.map nD).length<sizeLine then some (th.map nD++[.int (k:Int)])else none)=_
 rw[ah,if_pos (by rw[PySem.sizeLine_eq];omega)]
 unfold thD
 rw[aF]
 rfl
theorem z7f{o:List Nat}{k:Nat}(hk:1+k≤o.length):cut3 (some (thD o)) (some none) (some (some (1+(k:Int))))=some ((o.take (1+k)).map nD):=by
 show some (z5k (o.map nD) none (some (1+(k:Int))))=_
 unfold z5k
 have e1:HT.sIx (o.map nD).length 0 none=0:=rfl
 have e2:HT.sIx (o.map nD).length (o.map nD).length (some (1+(k:Int)))=1+k:=by
  rw[ah]
  show(if(1+(k:Int))<0 then((1+(k:Int))+(o.length:Int)).toNat else min (1+(k:Int)).toNat o.length)=1+k
  rw[if_neg (by omega)]
  omega
 rw[e1,e2,eu,eU,dg]
theorem y5T{fi:DS->Option (List D)}{c:DS->Option Bool}{f:DE}{δ:DS}:z6z fi c f δ=z2c (fi δ) (two (z4a c f δ)):=by
 unfold z6z z2c
 cases fi δ <;> rfl
theorem y7O{f:DE}{δ:DS}:y6i f δ=(f δ).bind y6Q:=(rfl)
def z4I(k:Nat):List Bool->List Nat
 |[]=>[]
 |b::r=>if b=true then k::z4I (k+1) r else z4I (k+1) r
theorem y7s:∀{r:List Bool} {k:Nat},z4I k r=(cj k r.length).filter fun i=>r.getD (i - k) false
 |[],_=>rfl
 |b::r,k=>by
  have ih:=y7s (r:=r) (k:=k+1)
  unfold z4I
  rw[aY,dG]
  have e:(cj (k+1) r.length).filter (fun i=>(b::r).getD (i - k) false)=(cj (k+1) r.length).filter fun i=>r.getD (i - (k+1)) false:=by
   apply bC
   intro i hi
   have:=(List.mem_range'_1.mp hi).1
   have e:i - k=(i - (k+1))+1:=by omega
   rw[e]
   rfl
  cases b with
  |true=>
   rw[ck (by simp),e,ih]
   rfl
  |false=>
   rw[cq (by simp),e,ih]
   rfl
theorem z7C:∀{ds:List D} {k:Nat},(z0y k ds).length=ds.length
 |[],_=>rfl
 |d::r,k=>by show(z0y (k+1) r).length+1=r.length+1;rw[z7C]
def chO(F G:D->D->Option D)(x y z:Option D):Option D:=match x,y with
 |some x,some y=>match F x y with
  |some (.bl true)=>z.bind fun z=>G y z
  |some (.bl false)=>some (.bl false)
  |_=>none
 |_,_=>none
theorem y5Q{F G:D->D->Option D}{f g h:DE}{δ:DS}:z8V F G f g h δ=chO F G (f δ) (g δ) (h δ):=by
 unfold z8V chO
 cases f δ <;> cases g δ <;> rfl
theorem x2U{F G:D->D->Option D}{x y z:D}{b c:Bool}(h1:F x y=some (.bl b))(h2:G y z=some (.bl c)):chO F G (some x) (some y) (some z)=some (.bl (b&&c)):=by
 show(match F x y with
  |some (.bl true)=>(some z).bind fun z=>G y z
  |some (.bl false)=>some (.bl false)
  |_=>none)=_
 rw[h1]
 cases b with
 |true=>exact h2
 |false=>rfl
def inO:Option D->Option D->Option Bool
 |some x,some y=>inK x y
 |_,_=>none
theorem y8O{f g:DE}{δ:DS}:x1V f g δ=inO (f δ) (g δ):=by
 unfold x1V inO
 cases f δ <;> cases g δ <;> rfl
theorem eo_in{x y:D}:inO (some x) (some y)=inK x y:=(rfl)
theorem y8D{f g:DE}{δ:DS}:x2j f g δ=(x1V f g δ).map (!·):=(rfl)
def y7P(o k v:Option D):Option D:=match o,k,v with
 |some (.dct ks ds),some dk,some d=>(y3o dk).bind fun k=>if z1t ds=true∧ks.length<sizeLine then some (.dct (y0Y ks k) (y1D ks ds k d))else none
 |_,_,_=>none
theorem kF{i:Nat}{s:SS}{dk d:D}{ks:List Key}{ds:List D}:(match y3o dk,(some (some (SD.ow (.dct ks ds))):Option (Option SD))with
   |some k,some (some (.ow (.dct ks ds)))=>if z1t ds=true∧ks.length<sizeLine then some (Out.nx ((z0t i s).set i (some (.ow (.dct (y0Y ks k) (y1D ks ds k d))))))else none
   |_,_=>none)=z8q i (y7P (some (.dct ks ds)) (some dk) (some d)) s:=by
 show _=z8q i ((y3o dk).bind _) s
 cases y3o dk with
 |none=>rfl
 |some k=>
  show(if z1t ds=true∧ks.length<sizeLine then _ else _)=z8q i (if z1t ds=true∧ks.length<sizeLine then _ else _) s
  split <;> rfl
theorem y8Q{i:Nat}{fk fv:DE}{s:SS}:dput i fk fv s=z8q i (y7P (owA i s) (fk (z0r s)) (y5g (fv (z0r s)))) s:=by
 unfold dput owA
 rcases fv (z0r s)with _ | d
 ·rcases fk (z0r s)with _ | dk <;> rcases s[i]? with _ | _ | ⟨x | x | ⟨r,x⟩⟩ <;> (first | rfl | (cases x <;> rfl))
 ·show(if d.imm=true then _ else _)=z8q i (y7P _ _ (if d.imm=true then some d else none)) s
  split
  ·rcases fk (z0r s)with _ | dk
   ·rcases s[i]? with _ | _ | ⟨x | x | ⟨r,x⟩⟩ <;> (first | rfl | (cases x <;> rfl))
   ·rw[aj]
    rcases s[i]? with _ | _ | ⟨x | x | ⟨r,x⟩⟩
    ·cases y3o dk <;> rfl
    ·cases y3o dk <;> rfl
    ·cases y3o dk <;> rfl
    ·cases x with
     |dct ks ds=>exact kF
     |_=>(cases y3o dk <;> rfl)
    ·cases y3o dk <;> rfl
  ·rcases fk (z0r s)with _ | dk <;> rcases s[i]? with _ | _ | ⟨x | x | ⟨r,x⟩⟩ <;> (first | rfl | (cases x <;> rfl))
def x1P:Option D->Option D->Option (List D)
 |some x,some y=>catLs x y
 |_,_=>none
theorem x5x{f g:DE}{δ:DS}:y4h f g δ=x1P (f δ) (g δ):=by
 unfold y4h x1P
 cases f δ <;> cases g δ <;> rfl
def revO:Option D->Option D->Option (List D)
 |some x,some y=>revLs x y
 |_,_=>none
theorem x1J{f g:DE}{δ:DS}:x1p f g δ=revO (f δ) (g δ):=by
 unfold x1p revO
 cases f δ <;> cases g δ <;> rfl
theorem y8A{ds:List D}:revO (some (.lst ds)) (some (.int (-1)))=some ds.reverse:=(rfl)
theorem z8I{ds es:List D}(h:ds.length+es.length≤1000000):x1P (some (.lst ds)) (some (.lst es))=some (ds++es):=if_pos (z1T h)
theorem y9g{d:D}{r:SS}:x3g 0 (some (.ow d)::r)=some (.sh d)::r:=(rfl)
theorem x1m{i:Nat}{x:Option SD}{r:SS}:x3g (i+1) (x::r)=x::x3g i r:=by
 unfold x3g
 rw[eM]
 rcases r[i]? with _ | _ | ⟨y | y | ⟨q,y⟩⟩ <;> rfl
def y1z(p:List Int):D:=.dct (p.map Sum.inl) (p.map fun _=>.bl true)
theorem told_in{p:List Int}{x:Int}(h:x∉p):inK (.int x) (y1z p)=some false:=by
 show some (y1q (p.map Sum.inl) (.inl x))=_
 congr 1
 unfold y1q
 rw[cK,b6]
 intro y hy z
 have:(Sum.inl y:Key)=Sum.inl x:=of_decide_eq_true z
 cases this
 exact h hy
theorem y1R:∀p:List Int,z1t (p.map fun _=>D.bl true)=true
 |[]=>rfl
 |_::p=>by
  show(true&&z1t (p.map fun _=>D.bl true))=true
  rw[y1R p]
  rfl
theorem x2t{p:List Int}{x:Int}(h:x∉p)(hl:p.length≤1000000):y7P (some (y1z p)) (some (.int x)) (some (.bl true))=some (y1z (p++[x])):=by
 show(if z1t (p.map fun _=>D.bl true)=true∧(p.map (Sum.inl:Int->Key)).length<sizeLine then _ else _)=_
 rw[if_pos ⟨y1R p,by rw[ah,PySem.sizeLine_eq];omega⟩]
 have hh:y1q (p.map Sum.inl) (.inl x)=false:=by
  have:=told_in h
  exact Option.some.inj this
 unfold y0Y y1D y1z
 rw[hh,if_neg ar,if_neg ar,aF,aF]
 rfl
def tabL(m:Nat)(bs:List (Int×List Int)):List (List Bool):=z0O (ad m) fun i j=>!decide (i=j)&&decide (0<y0T bs i j)
theorem x2F{m:Nat}{x:Int}(h:x∈z5E m):0≤x∧x<(m:Int):=by
 obtain⟨k,hk,rfl⟩:=aP.mp h
 have:=ak.mp hk
 omega
theorem y6o{m:Nat}:(z5E m).Nodup:=by
 unfold z5E
 rw[eh,List.pairwise_map]
 refine List.Pairwise.imp ?_ (eh.mp dH)
 intro a b h z
 exact h (by omega)
end L2
namespace Prg
open PySem L2
def extV(o x:Option D):Option D:=match x,o with
 |some (.lst es),some (.lst ds)=>if ds.length+es.length≤sizeLine then some (.lst (ds++es))else none
 |_,_=>none
theorem y4L{i:Nat}{f:DE}{s:SS}:x0i i f s=z8q i (extV (owA i s) (f (z0r s))) s:=by
 unfold x0i owA
 rcases f (z0r s)with _ | d
 ·rcases s[i]? with _ | _ | ⟨x | x | ⟨r,x⟩⟩ <;> (first | rfl | (cases x <;> rfl))
 ·rcases s[i]? with _ | _ | ⟨x | x | ⟨r,x⟩⟩ <;> cases d <;> (first | rfl | (cases x <;> first | rfl | skip))
  rename_i es ds
  show(if ds.length+es.length≤sizeLine then some _ else none)=z8q i (if ds.length+es.length≤sizeLine then some _ else none) s
  split <;> rfl
theorem eo_ext{ds es:List D}(h:ds.length+es.length≤1000000):extV (some (.lst ds)) (some (.lst es))=some (.lst (ds++es)):=if_pos (z1T h)
theorem y5n:∀ns:List Int,z2d (ns.map .int)=some ns
 |[]=>rfl
 |n::ns=>by
  rw[aC]
  unfold z2d
  rw[y5n ns]
  rfl
def sm(f:Nat->Nat):Nat->Nat
 |0=>0
 |n+1=>sm f n+f n
theorem z8i{β:Type}{f g:β->Int}:∀{L:List β},(∀x∈L,f x=g x)->(L.map f).sum=(L.map g).sum
 |[],_=>rfl
 |x::L,h=>by
  rw[aC,aC,bI,bI,h x af,z8i fun y hy=>h y (ae _ hy)]
end Prg
namespace L2
open PySem
theorem z8C{α:Type}{enc:α->D}{c:DS->Option Bool}{f:DE}{δ:DS}(p:α->Bool)(g:α->D){xs:List α}(hl:xs.length≤1000)(hc:∀x∈xs,c (δ++[some (enc x)])=some (p x))(hf:∀x∈xs,p x=true->f (δ++[some (enc x)])=some (g x)):z2c (some (xs.map enc)) (z1N c f δ)=some ((xs.filter p).map g):=by
 rw[z2j (by rw[ah];omega)]
 exact z7r p g hc hf
theorem z5l{α:Type}{enc:α->D}{f:DE}{δ:DS}(g:α->D){xs:List α}(hl:xs.length≤1000)(hf:∀x∈xs,f (δ++[some (enc x)])=some (g x)):z2c (some (xs.map enc)) (z1N z3p f δ)=some (xs.map g):=by
 rw[z2j (by rw[ah];omega)]
 exact z1F g hf
theorem x2K{p:Nat->Bool}{k:Nat}:(ad (k+1)).filter p=(ad k).filter p++if p k=true then [k] else []:=by rw[ci,bW,bh,List.filter_nil]
theorem z1J{m:Nat}(h:m≤1000000):x2S (some (.int (m:Int)))=some (z2h 0 m):=by rw[z8a (by omega)];rfl
theorem y9K{a:Nat}{th:List Nat}:x2s (.int (a:Int)) (thD th)=some (th.contains a):=by
 unfold thD x2s
 show(if(okP (.int (a:Int))&&okP (.lst (th.map nD)))=true then _ else none)=_
 rw[show okP (.lst (th.map nD))=true from okP_th th,show okP (.int (a:Int))=true from rfl]
 show some ((th.map nD).any fun y=>PyData.eqv (toP y) (toP (.int (a:Int))))=_
 congr 1
 rw[cK,cT]
 congr 1
 funext x
 show decide ((x:Int)=(a:Int))=(a==x)
 by_cases h:x=a
 ·subst h;simp
 ·have:¬ a=x:=fun e=>h e.symm
  have h2:¬ (x:Int)=(a:Int):=by omega
  simp[this,h2]
theorem x0e{a:Nat}{th:List Nat}:inD (.int (a:Int)) (thD th)=some (.bl (th.contains a)):=by
 unfold inD
 rw[y9K]
 rfl
theorem nin_ths{a:Nat}{th:List Nat}:x1T (.int (a:Int)) (thD th)=some (.bl (!th.contains a)):=by
 unfold x1T
 rw[y9K]
 rfl
theorem tru_th{th:List Nat}:z7p (thD th)=some (!th.isEmpty):=by cases th <;> rfl
theorem y4U{α:Type}{enc:α->D}{c:DS->Option Bool}{f:DE}{δ:DS}(p:Nat->α->Bool)(g:Nat->α->D):∀{xs:List α} {k:Nat},(∀i (h:i<xs.length),c (δ++[some (.int ((k+i:Nat):Int)),some (enc xs[i])])=some (p (k+i) xs[i]))->(∀i (h:i<xs.length),p (k+i) xs[i]=true->f (δ++[some (.int ((k+i:Nat):Int)),some (enc xs[i])])=some (g (k+i) xs[i])) →
  z1d (two (z4a c f δ)) (z0y k (xs.map enc))=some (((xs.zipIdx k).filter fun z=>p z.2 z.1).map fun z=>g z.2 z.1)
 |[],_,_,_=>rfl
 |x::r,k,hc,hf=>by
  have ih:=y4U (xs:=r) (k:=k+1) p g (fun i h=>by
   have:=hc (i+1) (by simpa using h)
   have e:k+1+i=k+(i+1):=by omega
   rw[e]
   simpa using this) fun i h hp=>by
   have e:k+1+i=k+(i+1):=by omega
   rw[e]at hp ⊢
   have:=hf (i+1) (by simpa using h) (by simpa using hp)
   simpa using this
  show z1d _ (.tup [.int (k:Nat),enc x]::z0y (k+1) (r.map enc))=_
  unfold z1d
  rw[ih]
  have h0:=hc 0 (by simp)
  have h1:=hf 0 (by simp)
  simp only[Nat.add_zero,List.getElem_cons_zero]at h0 h1
  have e:two (z4a c f δ) (.tup [.int (k:Nat),enc x])=some (if p k x=true then some (g k x)else none):=by
   show z4a c f δ (.int (k:Nat)) (enc x)=_
   unfold z4a
   rw[h0]
   cases hp:p k x with
   |true=>
    have:=h1 hp
    show(if true=true then(f (δ++[some (.int (k:Nat)),some (enc x)])).map some else some none)=_
    rw[if_pos rfl,this]
    rfl
   |false=>rfl
  rw[e,List.zipIdx_cons,bh]
  show some (x2D _ _)=_
  cases hp:p k x with
  |true=>rfl
  |false=>rfl
theorem x4L{α:Type}{enc:α->D}{c:DS->Option Bool}{f:DE}{δ:DS}(p:Nat->α->Bool)(g:Nat->α->D){xs:List α}(hl:xs.length≤1000)(hc:∀i (h:i<xs.length),c (δ++[some (.int (i:Int)),some (enc xs[i])])=some (p i xs[i]))(hf:∀i (h:i<xs.length),p i xs[i]=true->f (δ++[some (.int (i:Int)),some (enc xs[i])])=some (g i xs[i])):
  z2c (some (z0y 0 (xs.map enc))) (two (z4a c f δ))=some ((xs.zipIdx.filter fun z=>p z.2 z.1).map fun z=>g z.2 z.1):=by
 rw[z2j (by rw[z7C,ah];omega)]
 refine y4U p g (fun i h=>?_) fun i h hp=>?_
 ·rw[Nat.zero_add];exact hc i h
 ·rw[Nat.zero_add]at hp ⊢;exact hf i h hp
theorem cx2_all{α:Type}{enc:α->D}{f:DE}{δ:DS}(g:Nat->α->D){xs:List α}(hl:xs.length≤1000)(hf:∀i (h:i<xs.length),f (δ++[some (.int (i:Int)),some (enc xs[i])])=some (g i xs[i])):
  z2c (some (z0y 0 (xs.map enc))) (two (z4a z3p f δ))=some (xs.zipIdx.map fun z=>g z.2 z.1):=by
 rw[x4L (fun _ _=>true) g hl (fun _ _=>rfl) fun i h _=>hf i h,bF.mpr fun _ _=>rfl]
theorem x1y{th:List Nat}:y6Q (thD th)=some (z0y 0 (th.map nD)):=(rfl)
theorem z5p{o:List Nat}{k:Nat}:cut3 (some (thD o)) (some (some ((k:Int)+1))) (some none)=some ((o.drop (k+1)).map nD):=by
 show some (z5k (o.map nD) (some ((k:Int)+1)) none)=_
 unfold z5k
 have e1:HT.sIx (o.map nD).length (o.map nD).length none=(o.map nD).length:=rfl
 have e2:HT.sIx (o.map nD).length 0 (some ((k:Int)+1))=min (k+1) (o.map nD).length:=by
  show(if((k:Int)+1)<0 then(((k:Int)+1)+((o.map nD).length:Int)).toNat else min ((k:Int)+1).toNat (o.map nD).length)=_
  rw[if_neg (by omega)]
  congr 1
 rw[e1,e2,dh]
 congr 1
 by_cases h:k+1≤(o.map nD).length
 ·rw[cH h,cX (by simp)]
 ·rw[Nat.min_eq_right (by omega),eP (as:=o.map nD) (am _),List.take_nil,eP (by omega)]
theorem x5k{a b:List Nat}(h:a.length+b.length≤1000000):x1P (some (thD a)) (some (thD b))=some ((a++b).map nD):=by
 show x1P (some (.lst (a.map nD))) (some (.lst (b.map nD)))=_
 rw[z8I (by rw[ah,ah];exact h),aF]
theorem y1j(o:List Nat):D.lst (o.map nD)=thD o:=(rfl)
theorem th_one{j:Nat}:D.lst [.int (j:Int)]=thD [j]:=(rfl)
theorem z3d(o:List Nat):z6k (some (o.map nD))=some (o.map nD):=z1o (y2u o)
theorem z6W:z6k (some [])=some []:=(rfl)
theorem th_nil:D.lst []=thD []:=(rfl)
theorem x3M{c:Bool}{x y:Option Out}{Q:Out->Prop}(h1:c=true->hol x Q)(h2:c=false->hol y Q):hol (iteO (some c) x y) Q:=by
 cases hc:c with
 |true=>exact h1 hc
 |false=>exact h2 hc
def movX(x:Option D)(i j:Nat)(s:SS):Option Out:=match x with
 |some d=>some (.nx (((z0t j s).set j none).set i (some (.ow d))))
 |none=>none
theorem x4F{i j:Nat}{s:SS}:movO i j s=movX (owA j s) i j s:=by
 unfold movO owA movX
 generalize s[j]? = z
 rcases z with _ | _ | x
 ·rfl
 ·rfl
 ·cases x <;> rfl
theorem x4e{d:D}{i j:Nat}{s:SS}:movX (some d) i j s=some (.nx (((z0t j s).set j none).set i (some (.ow d)))):=(rfl)
theorem z3U{c:DS->Option Bool}{b:SS->Option Out}{QO:Out->Prop}(I:Nat->SS->Prop):∀{n:Nat} {s:SS},I n s->(∀n δ,I n δ->∃k,c (z0r δ)=some k∧(k=false->QO (.nx δ))∧(k=true->∃n',n=n'+1∧hol (b δ) fun o=>match o with | .nx δ'=>I n' δ' | .ct δ'=>I n' δ' | .bk δ'=>QO (.nx δ') | .rt d=>QO (.rt d) | .rb d δ'=>QO (.rb d δ') | .ex e δ'=>QO (.ex e δ')))->∀{f:Nat},n<f->hol (z3Z c b f s) QO
 |n,s,h0,hs,0,hf=>absurd hf (by omega)
 |n,s,h0,hs,f+1,hf=>by
  obtain⟨k,ec,h1,h2⟩:=hs n s h0
  unfold z3Z
  rw[ec]
  cases k with
  |false=>exact⟨_,rfl,h1 rfl⟩
  |true=>
   obtain⟨n',rfl,o,eb,q⟩:=h2 rfl
   show hol ((b s).bind _) QO
   rw[eb]
   cases o with
   |nx s1=>exact z3U I q hs (by omega)
   |ct s1=>exact z3U I q hs (by omega)
   |bk s1=>exact⟨_,rfl,q⟩
   |rt d=>exact⟨_,rfl,q⟩
   |rb d s1=>exact⟨_,rfl,q⟩
   |ex e s1=>exact⟨_,rfl,q⟩
theorem y3U{np nl:Nat}{b:SS->Option Out}{ds:List D}{d:D}(hl:ds.length=np)(h:hol (b (ds.map (fun d=>some (.sh d))++ai nl none)) fun o=>o = .rt d):y4T np nl b ds=some (.val d):=by
 unfold y4T
 rw[if_pos hl,hol_is.mp h]
theorem runX_nx{np nl:Nat}{b:SS->Option Out}{ds:List D}(hl:ds.length=np)(h:hol (b (ds.map (fun d=>some (.sh d))++ai nl none)) fun o=>∃s,o = .nx s):y4T np nl b ds=some (.val .non):=by
 obtain⟨_,e,s,rfl⟩:=h
 unfold y4T
 rw[if_pos hl,e]
theorem y2L{np nl:Nat}{b:SS->Option Out}{ds:List D}{c:Nat}(hl:ds.length=np)(h:hol (b (ds.map (fun d=>some (.sh d))++ai nl none)) fun o=>∃s,o = .ex c s):y4T np nl b ds=some (.exc c):=by
 obtain⟨_,e,s,rfl⟩:=h
 unfold y4T
 rw[if_pos hl,e]
def rsX(c:Nat)(x:Option D)(s:SS):Option Out:=match x with
 |some _=>some (.ex c s)
 |none=>none
theorem y4c{c:Nat}{f:DE}{s:SS}:z5i c f s=rsX c (f (z0r s)) s:=by
 unfold z5i rsX
 generalize f (z0r s)=x
 cases x <;> rfl
theorem y5O{c:Nat}{d:D}{s:SS}:rsX c (some d) s=some (.ex c s):=(rfl)
theorem y4N{m:List D->Option XO}{fl:List DE}{δ:DS}:z6w m fl δ=(z0m fl δ).bind m:=(rfl)
theorem y4H{m:List D->Option XO}{fl:List DE}{δ:DS}:y1O m fl δ=valO ((z0m fl δ).bind m):=(rfl)
def repO(x y:Option D):Option (List D):=x.bind fun a=>y.bind fun b=>repLs a b
theorem x4U{f g:DE}{δ:DS}:dRep f g δ=repO (f δ) (g δ):=(rfl)
theorem eo_repN{d:D}{n:Nat}(h:n≤1000000):repO (some (.lst [d])) (some (.int (n:Int)))=some (ai n d):=by
 have e:∀k:Nat,(ai k [d]).flatten=ai k d:=fun k=>by
  induction k with
  |zero=>rfl
  |succ k ih=>rw[bn,bB,ih,bn];rfl
 show(if(0≤(n:Int)∧(n:Int)≤1000000)∧[d].length*(n:Int).toNat≤sizeLine then some (ai (n:Int).toNat [d]).flatten else none)=_
 rw[if_pos ⟨⟨by omega,by omega⟩,z1T (by simp;exact h)⟩,cw,e]
theorem y5L{f g:DE}{δ:DS}:y9I f g δ=o2 mkD1 (f δ) (g δ):=ev_d2
theorem x0Z{f g h:DE}{δ:DS}:x2k f g h δ=rngN (f δ) (g δ) (h δ):=(rfl)
theorem x0S{a b:Int}:mkD1 (.int a) (.int b)=some (.dct [.inl a] [.int b]):=(rfl)
theorem y7W{ds:List D}{i:Int}:ixL (.lst ds) (.int i)=atI ds i:=(rfl)
def forX2(i j:Nat)(xs:Option (List D))(b:SS->Option Out)(s:SS):Option Out:=xs.bind fun ds=>z6c i j b ds s
theorem y4v{i j:Nat}{f:DS->Option (List D)}{g:SS->Option Out}{s:SS}:x3P i j f g s=forX2 i j (f (shV s)) g s:=(rfl)
theorem y9w{i j:Nat}{ds:List D}{b:SS->Option Out}{s:SS}:forX2 i j (some ds) b s=z6c i j b ds s:=(rfl)
theorem x5m{d:D}:valO (some (.val d))=some d:=(rfl)
def xrO(x:Option XO)(s:SS):Option Out:=match x with
 |some (.val d)=>some (.rt d)
 |some (.exc c)=>some (.ex c s)
 |none=>none
def xeO(x:Option XO)(s:SS):Option Out:=match x with
 |some (.val _)=>some (.nx s)
 |some (.exc c)=>some (.ex c s)
 |none=>none
theorem x1r{F:DS->Option XO}{s:SS}:retX F s=xrO (F (z0r s)) s:=by
 unfold retX xrO
 generalize F (z0r s)=x
 rcases x with _ | _ | _ <;> rfl
theorem y4n{F:DS->Option XO}{s:SS}:y8i F s=xeO (F (z0r s)) s:=by
 unfold y8i xeO
 generalize F (z0r s)=x
 rcases x with _ | _ | _ <;> rfl
theorem x4B{d:D}{s:SS}:xrO (some (.val d)) s=some (.rt d):=(rfl)
theorem x5s{c:Nat}{s:SS}:xrO (some (.exc c)) s=some (.ex c s):=(rfl)
theorem x5f{d:D}{s:SS}:xeO (some (.val d)) s=some (.nx s):=(rfl)
theorem x4M{c:Nat}{s:SS}{b:SS->Option Out}:y3Q (some (.ex c s)) b=some (.ex c s):=(rfl)
def tryX(x:Option Out)(gh:Nat->SS->Option Out):Option Out:=match x with
 |some (.ex c s)=>gh c s
 |o=>o
theorem x4l{gb:SS->Option Out}{gh:Nat->SS->Option Out}{s:SS}:tryO gb gh s=tryX (gb s) gh:=by
 unfold tryO tryX
 generalize gb s=x
 rcases x with _ | x
 ·rfl
 ·cases x <;> rfl
theorem x4a{d:D}{gh:Nat->SS->Option Out}:tryX (some (.rt d)) gh=some (.rt d):=(rfl)
theorem x5p{c:Nat}{s:SS}{gh:Nat->SS->Option Out}:tryX (some (.ex c s)) gh=gh c s:=(rfl)
def unX(i:Nat)(x:Option Out):Option Out:=match x with
 |some o=>unO i o
 |none=>none
theorem x4A{i:Nat}{x:Str}{g:SS->Option Out}{s:SS}:y7H i x g s=unX i (g (s.set i (some (.sh (.exc x))))):=by
 unfold y7H unX
 generalize g (s.set i (some (.sh (.exc x))))=z
 cases z <;> rfl
theorem x4I{i:Nat}{d:D}:unX i (some (.rt d))=some (.rt d):=(rfl)
theorem y9H{d:D}{r:SS}:y9i (some (.ow d)::r) 0=some d:=(rfl)
theorem x0w{x:Option SD}{r:SS}{i:Nat}:y9i (x::r) (i+1)=y9i r i:=by
 unfold y9i
 rw[eM]
theorem y6a{x:Option Out}{b:SS->Option Out}{I:SS->Prop}{d:D}(h:hol x fun o=>(∃s,o = .nx s∧I s)∨o = .rt d)(k:∀s,I s->hol (b s) fun o=>o = .rt d):hol (y3Q x b) fun o=>o = .rt d:=by
 obtain⟨o,rfl,q⟩:=h
 rcases q with⟨s,rfl,q⟩ | rfl
 ·exact k s q
 ·exact⟨_,rfl,rfl⟩
def okN(n:Nat)(d:D):Prop:=(toP d).canLay0=true∧(toP d).depth≤n
def oksN(n:Nat)(ds:List D):Prop:=PyData.canLayAll0 (z8K ds)=true∧PyData.depthAll (z8K ds)≤n
theorem y3Y{n:Nat}:∀{ds:List D},(∀d∈ds,okN n d)->oksN n ds
 |[],_=>⟨rfl,bu n⟩
 |d::ds,h=>by
  have h1:=h d af
  have h2:=y3Y fun x hx=>h x (ae _ hx)
  constructor
  ·show(PyData.canLay0 (toP d)&&PyData.canLayAll0 (z8K ds))=true
   rw[h1.1,h2.1]
   rfl
  ·show max (PyData.depth (toP d)) (PyData.depthAll (z8K ds))≤n
   have:=h1.2
   have:=h2.2
   omega
theorem okN_lst{n:Nat}{ds:List D}(h:∀d∈ds,okN n d):okN (n+1) (.lst ds):=by
 have:=y3Y h
 exact⟨this.1,dO this.2⟩
theorem y3b{n:Nat}{ds:List D}(h:∀d∈ds,okN n d):okN (n+1) (.tup ds):=by
 have:=y3Y h
 exact⟨this.1,dO this.2⟩
theorem okN_map{α:Type}{n:Nat}{f:α->D}{xs:List α}(h:∀x∈xs,okN n (f x)):okN (n+1) (.lst (xs.map f)):=okN_lst fun d hd=>by
 obtain⟨x,hx,rfl⟩:=aP.mp hd
 exact h x hx
theorem x3N{α:Type}{n:Nat}{f:α->D}{xs:List α}(h:∀x∈xs,okN n (f x)):okN (n+1) (.tup (xs.map f)):=y3b fun d hd=>by
 obtain⟨x,hx,rfl⟩:=aP.mp hd
 exact h x hx
theorem okN_up{n k:Nat}{d:D}(h:okN n d)(hk:n≤k):okN k d:=⟨h.1,aG h.2 hk⟩
theorem x1v{i:Int}:okN 0 (.int i):=⟨rfl,am 0⟩
theorem y5E{b:Bool}:okN 0 (.bl b):=⟨rfl,am 0⟩
theorem x5C{n:Nat}{d:D}(h:okN n d)(hn:n≤60):okP d=true:=by
 unfold okP
 rw[aE,decide_eq_true_eq]
 exact⟨h.1,aG h.2 hn⟩
theorem x0L{n:Nat}{d:D}(h:okN n d)(hn:n≤60):neD d d=some (.bl false):=ne_self (x5C h hn)
theorem eq_same{n:Nat}{d:D}(h:okN n d)(hn:n≤60):eqD d d=some (.bl true):=eq_self (x5C h hn)
theorem y8e{x:D}{r:List D}:atI (x::r) 0=some x:=z1u (j:=0) rfl
theorem x1w{x y:D}{r:List D}:atI (x::y::r) 1=some y:=z1u (j:=1) rfl
def z4H(ws:List Int):D:=.lst (ws.map .int)
def x3w(x:Option D)(lo hi:Option (Option Int)):Option D:=match x,lo,hi with
 |some (.tup ds),some l,some h=>some (.tup (z5k ds l h))
 |_,_,_=>none
theorem y9A{f:DE}{fl fh:DS->Option (Option Int)}{δ:DS}:y6T f fl fh δ=x3w (f δ) (fl δ) (fh δ):=by
 unfold y6T x3w
 rcases f δ with _ | (_ | _ | _ | _ | _ | _ | _ | _) <;> first | rfl | (cases fl δ <;> cases fh δ <;> rfl)
theorem y1h{ds:List D}{k:Nat}(hk:k≤ds.length):z5k ds none (some (k:Int))=ds.take k:=by
 unfold z5k
 have e1:HT.sIx ds.length 0 none=0:=rfl
 have e2:HT.sIx ds.length ds.length (some (k:Int))=k:=by
  show(if(k:Int)<0 then((k:Int)+(ds.length:Int)).toNat else min (k:Int).toNat ds.length)=k
  rw[if_neg (by omega)]
  omega
 rw[e1,e2,eu,eU]
theorem y2y{ds:List D}{k:Nat}:z5k ds (some (k:Int)) none=ds.drop k:=by
 unfold z5k
 have e1:HT.sIx ds.length 0 (some (k:Int))=min k ds.length:=by
  show(if(k:Int)<0 then((k:Int)+(ds.length:Int)).toNat else min (k:Int).toNat ds.length)=_
  rw[if_neg (by omega),cw]
 have e2:HT.sIx ds.length ds.length none=ds.length:=rfl
 rw[e1,e2]
 by_cases h:k≤ds.length
 ·rw[cH h]
  exact cX (by rw[dL];exact am _)
 ·rw[Nat.min_eq_right (by omega),eO (am _),eO (by omega),List.take_nil]
theorem max_in{ws:List Int}(h:ws≠[]):x0P [z4H ws]=some (.int (mxI ws)):=by
 show((z2d (ws.map D.int)).bind fun ns=>if ns.isEmpty=true then none else some (D.int (mxI ns)))=_
 rw[z5g,aj,if_neg (by simpa using h)]
theorem min_in{ws:List Int}(h:ws≠[]):y7I [z4H ws]=some (.int (mnI ws)):=by
 show((z2d (ws.map D.int)).bind fun ns=>if ns.isEmpty=true then none else some (D.int (mnI ns)))=_
 rw[z5g,aj,if_neg (by simpa using h)]
theorem ix_in{ws:List Int}{k:Nat}(h:k<ws.length):ixD (z4H ws) (.int (k:Int))=some (.int (ws.getD k 0)):=by
 have e:ws.getD k 0=ws[k]:=by simp[aZ,ac h]
 rw[e]
 exact y2n (by rw[ac (by simpa using h),bU])
theorem lst_in{ws:List Int}:D.lst (ws.map .int)=z4H ws:=(rfl)
theorem flat_in(o:List Int):z6k (some (o.map D.int))=some (o.map D.int):=z1o (z2v o)
def cM2(F:List D->Option D)(a b:Option D)(cs:Option (List D)):Option D:=a.bind fun a=>b.bind fun b=>cs.bind fun cs=>F (a::b::cs)
theorem y1J{F:List D->Option D}{f0 f1:DE}{fl:List DE}{δ:DS}:z7G F f0 f1 fl δ=cM2 F (f0 δ) (f1 δ) (z0m fl δ):=(rfl)
theorem x4K{F:List D->Option D}{a b:D}{cs:List D}:cM2 F (some a) (some b) (some cs)=F (a::b::cs):=(rfl)
def r1O(x:Option D):Option Out:=x.map fun d=>.rt (.lst [d])
theorem x1H{i:Nat}{s:SS}:ret1 i s=r1O (y9i s i):=(rfl)
theorem eo_r1{d:D}:r1O (some d)=some (.rt (.lst [d])):=(rfl)
theorem y5d{np nl:Nat}{b:SS->Option Out}{du d0:D}{ds:List D}{d:D}(hl:ds.length+2=np)(h:hol (b (some (.sh du)::some (.ow d0)::ds.map (fun d=>some (.sh d))++ai nl none)) fun o=>o = .rt d):y3S np nl b (du::d0::ds)=some d:=by
 obtain⟨o,e,rfl⟩:=h
 show(if ds.length+2=np then _ else none)=some d
 rw[if_pos hl]
 rw[e]
def zpO(x y:Option D):Option (List D):=x.bind fun a=>y.bind fun b=>zipS a b
theorem ev_zip{f g:DE}{δ:DS}:dZip f g δ=zpO (f δ) (g δ):=(rfl)
def sgn(x:Str):Prop:=∀c∈x.cps.toList,c<128
theorem z6h{c:Nat}(h:c<128):sgn ⟨#[c]⟩:=fun d hd=>by
 have:d=c:=by simpa using hd
 omega
section
variable{n:Int}{r:List D}{o:D}{s:SS}{i j:Nat}{f:DE}
theorem se(x:Str):(x==x)=true:=beq_self_eq_true x
theorem y3O:∀o:List Int,(z9N (o.map D.int)).isSome=true
 |[]=>rfl
 |n::r=>by
  show((z9N (r.map D.int)).map (n :: ·)).isSome=true
  rw[cO]
  exact y3O r
theorem popK_eq{x y:List Int}{p:Nat}(hi:s[i]? = some (some (.ow (.lst (x.map .int)))))(hj:s[j]? = some (some (.ow (.lst (y.map .int)))))(hf:f (z0r s)=some (.int (p:Int)))(hp:p<y.length)(hl:x.length≤1000)(hy:y.length≤1000):
  z7v i j f s=some (.nx ((z0t i ((z0t j s).set j (some (.ow (.lst ((y.eraseIdx p).map .int)))))).set i (some (.ow (.lst ((x++[y[p]]).map .int)))))):=by
 unfold z7v
 rw[hf,aj,hi,hj]
 have e1:(y.map D.int)[((p:Nat):Int).toNat]? = some (.int y[p]):=by
  rw[cw,ay,ac hp]
  rfl
 refine(if_pos ⟨by rw[ah,PySem.sizeLine_eq];omega,y3O x,y3O y,by omega,by rw[ah];omega,by rw[ah,PySem.sizeLine_eq];omega⟩).trans ?_
 rw[e1]
 show some (Out.nx (popS i j y[p] (x.map .int) ((y.map D.int).eraseIdx ((p:Nat):Int).toNat) s))=_
 unfold popS
 rw[cw,z5t,aF]
 rfl
end
section
end
section
end
end L2
set_option maxHeartbeats 4000000
namespace Prg
open PySem PySem.Spec PyProof.Rows L2
def top(i:Nat):Stmt:=PySem.Challenge.pw_askorder_k85_where_a_thing_stands.main.body.getD i (.Pass ⟨0,0,0,0⟩)
abbrev x1j:Stmt:=top 1
abbrev kG:List Str:=["table", "things"]
abbrev x4O:List Str:=["table", "things"]
abbrev y0z:Stmt:=top 2
abbrev x3a:List Str:=["row", "things"]
abbrev y5b:List Str:=["row", "things"]
abbrev y0R:Stmt:=top 3
abbrev x2L:List Str:=["table", "one"]
abbrev y5k:List Str:=["table", "one"]
abbrev z5d:Stmt:=top 4
abbrev y3c:List Str:=["table", "one"]
abbrev z8g:List Str:=["table", "one"]
abbrev z4b:Stmt:=top 5
abbrev y1C:List Str:=["table", "one"]
abbrev z6B:List Str:=["table", "one"]
abbrev z4S:Stmt:=top 6
abbrev y3m:List Str:=["table", "one", "things"]
abbrev z7X:List Str:=["table", "one", "things"]
abbrev z3F:Stmt:=top 7
abbrev y0d:List Str:=["marks"]
abbrev z5f:List Str:=["marks"]
abbrev y0j:Stmt:=top 9
abbrev x3m:List Str:=["table", "one", "other"]
abbrev y4C:List Str:=["table", "one", "other"]
abbrev z4N:Stmt:=top 10
abbrev y3e:List Str:=["table"]
abbrev z7I:List Str:=["table"]
abbrev z4r:Stmt:=top 11
abbrev y2H:List Str:=["table", "one"]
abbrev z6G:List Str:=["table", "one"]
abbrev z6i:Stmt:=top 13
abbrev y6P:List Str:=["table", "things"]
abbrev z8X:List Str:=["table", "things"]
abbrev z7H:Stmt:=top 14
abbrev x1k:List Str:=["table", "things"]
abbrev y1Y:List Str:=["table", "things"]
abbrev z9Y:Stmt:=top 15
abbrev x3r:List Str:=["table", "chain"]
abbrev y4q:List Str:=["table", "chain"]
abbrev z9P:Stmt:=top 17
abbrev x2Q:List Str:=["table"]
abbrev y4i:List Str:=["table"]
abbrev z3u:Stmt:=top 18
abbrev y0f:List Str:=["table", "thing", "chains", "chain"]
abbrev z5h:List Str:=["table", "thing"]
abbrev z1Z:Stmt:=top 19
abbrev z8s:List Str:=["table", "chain", "further", "chains", "thing"]
abbrev z2X:List Str:=["table", "chain", "further"]
abbrev z7E:Stmt:=top 26
abbrev y7X:List Str:=["table", "one"]
abbrev y1F:List Str:=["table", "one"]
abbrev z4l:Stmt:=top 27
abbrev y1a:List Str:=["table", "one", "steps", "edge", "further", "here", "other"]
abbrev z6D:List Str:=["table", "one"]
abbrev y3G:Stmt:=top 28
abbrev kw:List Str:=["table", "counts"]
abbrev y9v:List Str:=["table"]
abbrev z3K:Stmt:=top 29
abbrev z9L:List Str:=["counts", "wanted"]
abbrev z5q:List Str:=["counts", "wanted"]
abbrev z5O:Stmt:=top 30
abbrev y6k:List Str:=["table"]
abbrev z8Z:List Str:=["table"]
abbrev z5Y:Stmt:=top 32
abbrev y5X:List Str:=["value", "many"]
abbrev z8O:List Str:=["value", "many"]
abbrev z1S:Stmt:=top 33
abbrev z6f:List Str:=["order", "many", "told", "thing"]
abbrev z3m:List Str:=["order", "many"]
abbrev y2X:Stmt:=top 34
abbrev kx:List Str:=["votes", "many", "ballot"]
abbrev y3K:List Str:=["votes", "many"]
abbrev y0Q:Stmt:=top 35
abbrev x3t:List Str:=["votes"]
abbrev y4p:List Str:=["votes"]
abbrev x0l:Stmt:=top 36
abbrev kH:List Str:=["votes", "one", "other", "ahead", "behind"]
abbrev x4j:List Str:=["votes", "one", "other"]
abbrev z4f:Stmt:=top 37
abbrev y1E:List Str:=["order", "one", "other"]
abbrev z6A:List Str:=["order", "one", "other"]
abbrev z3i:Stmt:=top 38
abbrev z8G:List Str:=["order", "thing", "place"]
abbrev z3f:List Str:=["order", "thing"]
abbrev z6a:Stmt:=top 39
abbrev y5V:List Str:=["votes", "many"]
abbrev z6o:List Str:=["votes", "many"]
abbrev z9G:Stmt:=top 40
abbrev x2w:List Str:=["votes", "many", "one"]
abbrev y4m:List Str:=["votes", "many", "one"]
abbrev z2u:Stmt:=top 42
abbrev y0t:List Str:=["table", "total", "mate"]
abbrev z3B:List Str:=["table"]
abbrev y7w:Stmt:=top 43
abbrev kJ:List Str:=["table", "mate"]
abbrev x5h:List Str:=["table", "mate"]
abbrev z3D:Stmt:=top 44
abbrev y0h:List Str:=["times"]
abbrev z5C:List Str:=["times"]
abbrev z8d:Stmt:=top 45
abbrev x1D:List Str:=["table", "things"]
abbrev y2z:List Str:=["table", "things"]
abbrev y0o:Stmt:=top 46
abbrev x3W:List Str:=["table"]
abbrev y5J:List Str:=["table"]
abbrev y3h:Stmt:=top 48
abbrev kz:List Str:=["table", "weights", "thing"]
abbrev x0u:List Str:=["table", "weights", "thing"]
abbrev z5b:Stmt:=top 49
abbrev y2O:List Str:=["weights", "things"]
abbrev z7m:List Str:=["weights", "things"]
abbrev z8f:Stmt:=top 50
abbrev x0A:List Str:=["table", "weights"]
abbrev y1i:List Str:=["table", "weights"]
abbrev z4g:Stmt:=top 51
abbrev y2v:List Str:=["table", "weights", "thing"]
abbrev z6x:List Str:=["table", "weights", "thing"]
abbrev z5U:Stmt:=top 52
abbrev y6N:List Str:=["table", "things", "weights"]
abbrev z9a:List Str:=["table"]
abbrev z4M:Stmt:=top 53
abbrev y2Y:List Str:=["things", "picks", "thing"]
abbrev z7F:List Str:=["things"]
abbrev z4q:Stmt:=top 54
abbrev y1o:List Str:=["table", "things", "numbers", "divisor", "weights", "thing", "number"]
abbrev z6H:List Str:=["table", "things"]
abbrev z2m:Stmt:=top 55
abbrev z6P:List Str:=["numbers", "divisor", "number"]
abbrev z3M:List Str:=["numbers"]
abbrev z2l:Stmt:=top 56
abbrev z6N:List Str:=["one", "other", "rest"]
abbrev z3O:List Str:=["one", "other"]
abbrev z3I:Stmt:=top 58
abbrev y0s:List Str:=["table", "thing"]
abbrev z5G:List Str:=["table", "thing"]
abbrev z3a:Stmt:=top 59
abbrev z8A:List Str:=["votes", "place", "thing", "ballot"]
abbrev z3h:List Str:=["votes", "place", "thing"]
abbrev z4d:Stmt:=top 61
abbrev y1H:List Str:=["cell", "many", "left", "order"]
abbrev z6C:List Str:=["cell", "many"]
abbrev z3T:Stmt:=top 62
abbrev y1V:List Str:=["script", "many", "votes", "whole", "cell", "rest"]
abbrev z6I:List Str:=["script", "many"]
abbrev z3X:Stmt:=top 63
abbrev y2q:List Str:=["cell", "beats", "step", "places", "table", "one", "other"]
abbrev z6E:List Str:=["cell"]
abbrev z2B:Stmt:=top 64
abbrev z7P:List Str:=["table", "votes", "one", "other", "rest"]
abbrev z4h:List Str:=["table"]
abbrev z4V:Stmt:=top 65
abbrev y2S:List Str:=["votes", "at", "thing", "e"]
abbrev z7x:List Str:=["votes", "at", "thing"]
abbrev z1D:Stmt:=top 66
abbrev z4Z:List Str:=["votes", "at", "thing", "handed", "found", "order", "place", "due"]
abbrev z2G:List Str:=["votes", "at", "thing"]
abbrev z9U:Stmt:=top 67
abbrev kP:List Str:=["script", "many", "votes", "table", "weights", "thing", "found", "due", "at"]
abbrev j2:List Str:=["script"]
theorem nd0:(["row", "things", "other"]:List Str).Nodup:=by decide +kernel
theorem nd1:(["table", "things", "one"]:List Str).Nodup:=by decide +kernel
theorem nd2:(["table", "one", "row"]:List Str).Nodup:=by decide +kernel
theorem nd3:(["table", "one", "things", "other"]:List Str).Nodup:=by decide +kernel
theorem nd4:(["marks", "place", "mark"]:List Str).Nodup:=by decide +kernel
theorem nd5:(["table", "one", "other"]:List Str).Nodup:=by decide +kernel
theorem nd6:(["table", "one"]:List Str).Nodup:=by decide +kernel
theorem nd7:(["table", "things", "place", "one"]:List Str).Nodup:=by decide +kernel
theorem nd8:(["table", "chain", "further", "chains", "thing", "other"]:List Str).Nodup:=by decide +kernel
theorem nd9:(["table", "thing", "chains", "3", "chain"]:List Str).Nodup:=by decide +kernel
theorem nd10:(["table", "thing"]:List Str).Nodup:=by decide +kernel
theorem nd11:(["counts", "wanted", "place", "count"]:List Str).Nodup:=by decide +kernel
theorem nd12:(["table", "counts", "count"]:List Str).Nodup:=by decide +kernel
theorem nd13:(["table", "counts", "one"]:List Str).Nodup:=by decide +kernel
theorem nd14:(["votes", "ballot"]:List Str).Nodup:=by decide +kernel
theorem nd15:(["votes", "one", "other", "ahead", "behind", "ballot"]:List Str).Nodup:=by decide +kernel
theorem nd16:(["votes", "many", "one", "other"]:List Str).Nodup:=by decide +kernel
theorem nd17:(["votes", "many", "one"]:List Str).Nodup:=by decide +kernel
theorem nd18:(["table", "things", "thing"]:List Str).Nodup:=by decide +kernel
theorem nd19:(["weights", "things", "thing"]:List Str).Nodup:=by decide +kernel
theorem nd20:(["table", "weights", "thing"]:List Str).Nodup:=by decide +kernel
theorem nd21:(["things", "picks", "thing", "pick"]:List Str).Nodup:=by decide +kernel
theorem nd22:(["cell", "beats", "step", "places", "table", "5", "other", "one"]:List Str).Nodup:=by decide +kernel
theorem nd23:(["cell", "beats", "step", "places", "table", "5", "6", "one", "other"]:List Str).Nodup:=by decide +kernel
theorem nd24:(["cell", "beats", "step", "places", "table", "one", "other", "k"]:List Str).Nodup:=by decide +kernel
theorem nd25:(["table", "votes", "one", "other", "rest", "thing"]:List Str).Nodup:=by decide +kernel
theorem nd26:(["script", "many", "votes", "table", "weights", "thing", "found", "due", "at", "one"]:List Str).Nodup:=by decide +kernel
def y0y:SS->Option Out:=(z8p (z0w (z0K (z5I (z0c 1)) z3p (d2 ixD (z0c 0) (z0c 2)))))
def z5s:List D->Option D:=z1G 2 0 y0y
def x0F:SS->Option Out:=(z8p (mkL (z0K (z5I (z0c 1)) z3p (z0k z5s [(d2 ixD (z0c 0) (z0c 2)),(z0c 1)]))))
def z8S:List D->Option D:=z1G 2 0 x0F
def z9S:SS->Option Out:=(z8p (z0w (z0K (z5I (z0c 0)) z3p (d2 ixD (z0c 2) (z0c 1)))))
def z7g:List D->Option D:=z1G 2 0 z9S
def z4X:SS->Option Out:=(z2y (z0k allF [(mkL (z0K (z5I (z0c 2)) z3p (d2 ixD (d2 ixD (z0c 0) (z0c 1)) (z0c 3))))]))
def z0Y:List D->Option D:=z1G 3 0 z4X
def z3G:SS->Option Out:=(z8p (z0w (z6z (y6i (z0c 0)) (z0q (z0c 2)) (z0c 1))))
def z1r:List D->Option D:=z1G 1 0 z3G
def z4L:SS->Option Out:=(z8p (z0k z1r [(d2 ixD (z0c 0) (z0c 1))]))
def z0I:List D->Option D:=z1G 2 0 z4L
def z3W:SS->Option Out:=(z8p (z0k z1r [(z0k z7g [(z0c 0),(z0c 1)])]))
def z2M:List D->Option D:=z1G 2 0 z3W
def z9W:SS->Option Out:=(z2y (y6Y (d2 ixD (d2 ixD (z0c 0) (z0c 1)) (z0c 2)) (z0k z0Y [(z0c 0),(z0c 1),(z0k z0I [(z0c 0),(z0c 2)])])))
def z6U:List D->Option D:=z1G 3 0 z9W
def z3Y:SS->Option Out:=(z2y (z0k anyF [(mkL (z0K (z1g (z0k z2t [(z0c 0)])) z3p (z0k z6U [(z0c 0),(z0c 2),(z0c 1)])))]))
def z2P:List D->Option D:=z1G 2 0 z3Y
def z4O:SS->Option Out:=(z8p (z0w (z0K (z1g (z0k z2t [(z0c 0)])) (z2W (z0q (z0k z2P [(z0c 0),(z0c 1)]))) (z0c 1))))
def z0X:List D->Option D:=z1G 1 0 z4O
def z4u:SS->Option Out:=(z0J (ifO (z0H (d2 eqD (z0k z2t [(z0c 1)]) (dC (.int 0)))) (z2y (dC (.bl false))) z1q)
 (z2y (z0k allF [(mkL (z6z (y6i (z0c 1)) z3p (z0k z0Y [(z0c 0),(z0c 3),(mkL (y7u (z0c 1) (z6n (d2 z8o (z0c 2) (dC (.int 1)))) z2Y))])))])))
def z4v:List D->Option D:=z1G 2 0 z4u
def z7h:SS->Option Out:=(z8p (z0w (z0K (z1g (z0k z2t [(z0c 0)])) (z0q (z0k z0Y [(z0c 0),(z0c 2),(z0c 1)])) (z0c 2))))
def z2E:List D->Option D:=z1G 2 0 z7h
def y0g:SS->Option Out:=(z2y (y6Y (z0k z4v [(z0c 0),(z0c 1)]) (d2 eqD (z0k z2t [(z0k z2E [(z0c 0),(z0c 1)])]) (dC (.int 0)))))
def z5n:List D->Option D:=z1G 2 0 y0g
def z2a(mR:List D->Option D):SS->Option Out:=(z0J (ifO (z2W (z0q (z0c 2))) (ret1 1) z1q)
 (z0J (z5H 3 (z0w (z0m [])))
 (z0J (z9d 4 (z5I (z0c 2)) (x0i 3 (z7G mR (z0c 0) (z0w (y4h (z0c 1) (mkL (z0m [(z0c 4)])))) [(mkL (z0K (z5I (z0c 2)) (z0q (d2 ixD (d2 ixD (z0c 0) (z0c 4)) (z0c 5))) (z0c 5)))])))
 (y7q 3))))
def z1j:Nat->List D->Option D
 |0=>y3S 3 2 fun _=>none
 |n+1=>y3S 3 2 (z2a (z1j n))
def z1X:List D->Option D:=z1j 12
def z3r:SS->Option Out:=(z0J (y7a 2 (z7G z1X (z0c 0) (z0w (z0m [(z0c 1)])) [(z0k z0I [(z0c 0),(z0c 1)])]))
 (z0J (z9d 3 (z5I (z0c 2)) (ifO (z0q (z0k z5n [(z0c 0),(z0c 3)])) (retS (mkT (z0m [(dC (.str "chain")),(z0c 3)]))) z1q))
 (retS (mkT (z0m [(dC (.str "beaten")),(mkL (z0K (z5I (z0c 2)) z3p (mkT (z0m [(z0c 4),(d2 ixD (z0k z2E [(z0c 0),(z0c 4)]) (dC (.int 0)))]))))])))))
def z1M:List D->Option D:=z1G 2 2 z3r
def z9o:SS->Option Out:=(z8p (z0w (z0K (z1g (z0k z2t [(z0c 0)])) (z0H (d2 eqD (d2 ixD (z0k z1M [(z0c 0),(z0c 1)]) (dC (.int 0))) (dC (.str "chain")))) (z0c 1))))
def z3y:List D->Option D:=z1G 1 0 z9o
def z4o:SS->Option Out:=(z0J (z5H 2 (y9I (z0c 1) (z0c 1)))
 (z0J (z5H 3 (z0w (z0m [(z0c 1)])))
 (z0J (z3Z (z0q (z0c 3)) (z0J (z5H 4 (z0w (z0m [])))
 (z0J (frzO 3 (z9d 5 (z5I (z0c 3)) (z9d 6 (z5I (z0k z0I [(z0c 0),(z0c 5)])) (ifO (x2j (z0c 6) (z0c 2)) (z0J (dput 2 (z0c 6) (z0c 5))
 (m0 4 y0U [(z0c 6)])) z1q))))
 (movO 3 4))) 100)
 (y7q 2))))
def z2N:List D->Option D:=z1G 2 5 z4o
def z7W:SS->Option Out:=(z8p (z0w (z4J y2h [(z0k z2N [(z0c 0),(z0c 1)])])))
def z4s:List D->Option D:=z1G 2 0 z7W
def z3J:SS->Option Out:=(z8p (z0w (z6z (y6i (z0c 0)) (z0H (d2 eqD (z0c 3) (z0c 1))) (z0c 2))))
def z1K:List D->Option D:=z1G 2 0 z3J
def y3P:SS->Option Out:=(z0J (z5H 1 (z0w (z0K (z1g (z0k z2t [(z0c 0)])) z3p (z0k z2t [(z0k z4s [(z0c 0),(z0c 2)])]))))
 (z8p (mkL (z0K (x2k (z0k z2t [(z0c 0)]) (dC (.int 0)) (d1 x3f (dC (.int 1)))) (z0H (d2 inD (z0c 2) (z0c 1))) (z0k z1K [(z0c 1),(z0c 2)])))))
def z9Z:List D->Option D:=z1G 1 1 y3P
def z5S:SS->Option Out:=(z8p (d2 ixL (z0k z9Z [(z0c 0)]) (dC (.int 0))))
def z1U:List D->Option D:=z1G 1 0 z5S
def z5L:SS->Option Out:=(z2y (y6Y (dIs "int" (z0c 0)) (y6Y (d1 uNot (dIs "bool" (z0c 0))) (z8V leI ltI (dC (.int 0)) (z0c 0) (z0c 1)))))
def z3n:List D->Option D:=z1G 2 0 z5L
def z1p:SS->Option Out:=(z0J (ifO (z0H (d2 neD (z0k z2t [(z0c 0)]) (z0c 1))) (z2y (dC (.bl false))) z1q)
 (z0J (z5H 2 (dC (.dct [] [])))
 (z0J (z9d 3 (z5I (z0c 0)) (z0J (ifO (x0g (z2W (z0q (z0k z3n [(z0c 3),(z0c 1)]))) (x1V (z0c 3) (z0c 2))) (z2y (dC (.bl false))) z1q)
 (dput 2 (z0c 3) (dC (.bl true)))))
 (z2y (dC (.bl true))))))
def z0T:List D->Option D:=z1G 2 2 z1p
def y0D:SS->Option Out:=(z2y (z0k sumF [(mkL (z0K (z5I (z0c 0)) z3p (d2 ixD (z0c 1) (dC (.int 0)))))]))
def z3v:List D->Option D:=z1G 1 0 y0D
def y0K:SS->Option Out:=(z0J (z9d 2 (z5I (z0c 0)) (ifO (z2W (z0q (z0k z0T [(d2 ixD (z0c 2) (dC (.int 1))),(z0c 1)]))) (z5i 1 (dC (.str "the order of a ballot does not tell each thing once and nothing else"))) z1q))
 (ifO (z0H (d2 eqD (d2 z2J (z0k z3v [(z0c 0)]) (dC (.int 2))) (dC (.int 0)))) (z5i 2 (dC (.str "the voices of all ballots together are an even number"))) z1q))
def z9H:List D->Option XO:=y4T 2 1 y0K
def z4n:SS->Option Out:=(z2y (d2 ltI (d2 tixF (z0c 0) (z0c 1)) (d2 tixF (z0c 0) (z0c 2))))
def z1i:List D->Option D:=z1G 3 0 z4n
def x1u:SS->Option Out:=(z0J (z5H 3 (z0w (z0K (z5I (z0c 0)) (z0q (z0k z1i [(d2 ixD (z0c 5) (dC (.int 1))),(z0c 1),(z0c 2)])) (z0c 5))))
 (z0J (z5H 4 (z0w (z0K (z5I (z0c 0)) (z0q (z0k z1i [(d2 ixD (z0c 5) (dC (.int 1))),(z0c 2),(z0c 1)])) (z0c 5))))
 (z2y (d2 y4g (z0k z3v [(z0c 3)]) (z0k z3v [(z0c 4)])))))
def y0Z:List D->Option D:=z1G 3 2 x1u
def z2b:SS->Option Out:=(z0J (z6b 2 (d2 tixF (z0c 0) (z0c 1)))
 (z0J (ifO (z0H (d2 eqD (z0c 2) (dC (.int 0)))) (z5i 3 (dC (.str "the thing is the best one of the ballot already"))) z1q)
 (z2y (d2 catT (d2 catT (y6T (z0c 0) z2Y (z6n (d2 y4g (z0c 2) (dC (.int 1))))) (mkT (z0m [(z0c 1),(d2 ixD (z0c 0) (d2 y4g (z0c 2) (dC (.int 1))))]))) (y6T (z0c 0) (z6n (d2 z8o (z0c 2) (dC (.int 1)))) z2Y)))))
def z1b:List D->Option XO:=y4T 2 1 z2b
def z9A:SS->Option Out:=(z8p (z0w (z0K (z1g (z0c 1)) z3p (y6Y (d2 neD (z0c 2) (z0c 3)) (d2 gtI (z0k y0Z [(z0c 0),(z0c 2),(z0c 3)]) (dC (.int 0)))))))
def z6Q:List D->Option D:=z1G 3 0 z9A
def z5W:SS->Option Out:=(z0J (y8i (z6w z9H [(z0c 0),(z0c 1)]))
 (z8p (mkL (z0K (z1g (z0c 1)) z3p (z0k z6Q [(z0c 0),(z0c 1),(z0c 2)])))))
def z4x:List D->Option XO:=y4T 2 0 z5W
def y5c:SS->Option Out:=(z2y (dIf (z0q (d2 ixD (d2 ixD (z0c 0) (dC (.int 0))) (z0c 1))) (dC (.int 1)) (d1 x3f (dC (.int 1)))))
def y2G:List D->Option D:=z1G 2 0 y5c
def z2x:SS->Option Out:=(z2y (dIf (z0H (d2 eqD (d2 z2J (z0c 0) (dC (.int 2))) (dC (.int 0)))) (dC (.int 1)) (d1 x3f (dC (.int 1)))))
def z0N:List D->Option D:=z1G 1 0 z2x
def z7k:SS->Option Out:=(z8p (z0k z8S [(z0c 0),(mkL (z0K (z1g (z0k z2t [(z0c 0)])) (z0H (d2 x1T (z0c 2) (z0c 1))) (z0c 2)))]))
def z1w:List D->Option D:=z1G 2 0 z7k
def z2r(mR:List D->Option D):SS->Option Out:=(z0J (ifO (z0H (d2 eqD (z0k z2t [(z0c 0)]) (dC (.int 0)))) (z2y (dC (.int 1))) z1q)
 (z0J (z6b 1 (dC (.int 0)))
 (z0J (z9d 2 (x2b (dC (.int 1)) (z0k z2t [(z0c 0)])) (z6b 1 (d2 z8o (z0c 1) (d2 mulB (d2 mulB (z0k z0N [(d2 y4g (z0c 2) (dC (.int 1)))]) (z0k y2G [(z0c 0),(z0c 2)])) (z0k mR [(z0k z1w [(z0c 0),(mkL (z0m [(dC (.int 0)),(z0c 2)]))])])))))
 (z2y (z0c 1)))))
def z1z:Nat->List D->Option D
 |0=>z1G 1 2 fun _=>none
 |n+1=>z1G 1 2 (z2r (z1z n))
def z1I:List D->Option D:=z1z 12
def z9z:SS->Option Out:=(z8p (z0w (z0K (z1g (z0k z2t [(z0c 0)])) z3p (d2 mulB (z0k z0N [(z0c 1)]) (z0k z1I [(z0k z1w [(z0c 0),(mkL (z0m [(z0c 1)]))])])))))
def z6S:List D->Option D:=z1G 1 0 z9z
def z4T:SS->Option Out:=(z2y (z0k sumF [(mkL (z0K (z5I (z0c 1)) z3p (d2 ixD (z0c 0) (z0c 2))))]))
def z2D:List D->Option D:=z1G 2 0 z4T
def y2P:SS->Option Out:=(z2y (d2 y4g (z0k z2D [(z0c 1),(z0k z0I [(z0c 0),(z0c 2)])]) (z0k z2D [(z0c 1),(z0k z2M [(z0c 0),(z0c 2)])])))
def z7U:List D->Option D:=z1G 3 0 y2P
def z2R:SS->Option Out:=(z0J (ifO (z0H (d2 gtI (d2 ixD (z0c 1) (z0c 2)) (dC (.int 0)))) (z2y (d2 eqD (z0k z7U [(z0c 0),(z0c 1),(z0c 2)]) (dC (.int 0)))) z1q)
 (z2y (d2 ltI (z0k z7U [(z0c 0),(z0c 1),(z0c 2)]) (dC (.int 0)))))
def z2f:List D->Option D:=z1G 3 0 z2R
def z7u:SS->Option Out:=(z0J (ifO (x0g (z0H (d2 ltI (z0k y7I [(z0c 1)]) (dC (.int 0)))) (z0H (d2 eqD (z0k x0P [(z0c 1)]) (dC (.int 0))))) (z2y (dC (.bl false))) z1q)
 (z2y (z0k allF [(mkL (z0K (z1g (z0k z2t [(z0c 0)])) z3p (z0k z2f [(z0c 0),(z0c 1),(z0c 2)])))])))
def z5o:List D->Option D:=z1G 2 0 z7u
def z5c:SS->Option Out:=(z0J (y7a 1 (mkL (z0m [(z0w (z0m []))])))
 (z0J (z9d 2 (z5I (z0c 0)) (y7a 1 (mkL (y4h (z0c 1) (mkL (z0K (z5I (z0c 1)) z3p (z0w (y4h (z0c 3) (mkL (z0m [(z0c 2)]))))))))))
 (retS (mkL (z0K (z5I (z0c 1)) (z0H (d2 eqD (d2 z2J (z0k z2t [(z0c 3)]) (dC (.int 2))) (dC (.int 1)))) (z0c 3))))))
def z3A:List D->Option D:=z1G 1 2 z5c
def z2p:SS->Option Out:=(z0J (z3Z (z0H (d2 gtI (z0c 1) (dC (.int 0)))) (z0J (z6b 2 (d2 z2J (z0c 0) (z0c 1)))
 (z0J (z6b 0 (z0c 1))
 (z6b 1 (z0c 2)))) 100)
 (z2y (z0c 0)))
def z1B:List D->Option D:=z1G 2 1 z2p
def z2o:SS->Option Out:=(z0J (z6b 1 (dC (.int 0)))
 (z0J (z9d 2 (z5I (z0c 0)) (z6b 1 (z0k z1B [(z0c 1),(z0k absF [(z0c 2)])])))
 (z2y (z0c 1))))
def z1A:List D->Option D:=z1G 1 2 z2o
def z4k:SS->Option Out:=(z0J (y7a 2 (z0k z6S [(z0k z8S [(z0c 0),(z0c 1)])]))
 (z0J (z6b 3 (z0k z1A [(z0c 2)]))
 (z0J (ifO (z0H (d2 ltI (d2 ixD (z0c 2) (dC (.int 0))) (dC (.int 0)))) (z6b 3 (d1 x3f (z0c 3))) z1q)
 (z0J (z5H 4 (z0w (dRep (mkL (z0m [(dC (.int 0))])) (z0k z2t [(z0c 0)]))))
 (z0J (x3P 5 6 (dZip (z0c 1) (z0c 2)) (st0 4 (z0c 5) (d2 divN (z0c 6) (z0c 3))))
 (y7q 4))))))
def z2Q:List D->Option D:=z1G 2 5 z4k
def z5T:SS->Option Out:=(z9d 1 (z5I (z0k z3A [(z0k z0X [(z0c 0)])])) (z0J (z5H 2 (z0k z2Q [(z0c 0),(z0c 1)]))
 (ifO (z0q (z0k z5o [(z0c 0),(z0c 2)])) (y7q 2) z1q)))
def z1W:List D->Option D:=z1G 1 2 z5T
def z3t:SS->Option Out:=(z2y (mkT (z0m [(d2 inD (z0c 1) (z0k z1U [(z0c 0)])),(d2 inD (z0c 1) (z0k z0X [(z0c 0)])),(d2 inD (z0c 1) (z0k z3y [(z0c 0)])),(d2 gtI (d2 ixD (z0k z1W [(z0c 0)]) (z0c 1)) (dC (.int 0)))])))
def z2w:List D->Option D:=z1G 2 0 z3t
def z1Y:SS->Option Out:=(z0J (z6b 3 (d2 ixD (z0c 0) (z0c 1)))
 (altO (z8p (z0w (y4h (mkL (y4h (mkL (y7u (z0c 0) z2Y (z6n (z0c 1)))) (mkL (z0m [(mkT (z0m [(d2 ixD (z0c 3) (dC (.int 0))),(y1O z1b [(d2 ixD (z0c 3) (dC (.int 1))),(z0c 2)])]))])))) (mkL (y7u (z0c 0) (z6n (d2 z8o (z0c 1) (dC (.int 1)))) z2Y))))) (excO (exR (mkL (y7u (z0c 0) z2Y (z6n (z0c 1)))) (exR (d2 ixD (z0c 3) (dC (.int 0))) (z6w z1b [(d2 ixD (z0c 3) (dC (.int 1))),(z0c 2)]))))))
def z1x:List D->Option XO:=y4T 3 1 z1Y
def z4c:SS->Option Out:=(z0J (z5H 2 (z0w (z4G (z1g (z0c 1)))))
 (z0J (z5H 3 (z0w (z0m [])))
 (z0J (z3Z (z0H (d2 gtI (z0k z2t [(z0c 2)]) (dC (.int 0)))) (z0J (z7v 3 2 (d2 z2J (z0c 0) (z0k z2t [(z0c 2)])))
 (z6b 0 (d2 z6Z (z0c 0) (d2 z8o (z0k z2t [(z0c 2)]) (dC (.int 1)))))) 100)
 (z2y (z0k x1U [(z0c 3)])))))
def z2O:List D->Option D:=z1G 2 2 z4c
def z4j:SS->Option Out:=(z0J (z5H 2 (z0w (z0m [])))
 (z0J (z6b 3 (dC (.int 0)))
 (z0J (z9d 4 (z5I (mkL (y7u (z0c 0) (z6n (dC (.int 1))) (z6n (dC (.int 40)))))) (z0J (z6b 5 (d2 z2J (z0c 4) (d2 x1W (dC (.int 10)) (dC (.int 40)))))
 (z0J (m0 2 y0U [(mkT (z0m [(d2 z8o (dC (.int 1)) (d2 z2J (d2 z6Z (z0c 5) (dC (.int 7))) (d2 ixD (mkL (z0m [(dC (.int 3)),(d2 x1W (dC (.int 10)) (dC (.int 30)))])) (d2 z2J (z0c 5) (dC (.int 2)))))),(z0k z2O [(d2 z6Z (z0c 5) (dC (.int 21))),(z0c 1)])]))])
 (z6b 3 (d2 z8o (z0c 3) (d2 ixD (d2 ixD (z0c 2) (d1 x3f (dC (.int 1)))) (dC (.int 0))))))))
 (z0J (ifO (z0H (d2 eqD (d2 z2J (z0c 3) (dC (.int 2))) (dC (.int 0)))) (m0 2 y0U [(mkT (z0m [(dC (.int 1)),(mkT (z4G (z1g (z0c 1))))]))]) z1q)
 (y7q 2)))))
def z2U:List D->Option D:=z1G 2 4 z4j
def z4e:SS->Option Out:=(z0J (z5H 1 (litD [[1,2,3],[2,5],[3,6],[1,4],[0,1,2],[0,2,3],[0,1,3]]))
 (z0J (z6b 0 (d2 z2J (z0c 0) (d2 x1W (dC (.int 10)) (dC (.int 12)))))
 (z0J (m1 1 (d2 z8o (dC (.int 4)) (d2 z2J (z0c 0) (dC (.int 2)))) y0U [(d2 y4g (dC (.int 5)) (d2 z2J (z0c 0) (dC (.int 2))))])
 (z0J (m1 1 (d2 z8o (dC (.int 4)) (d2 y9Q (dC (.int 2)) (d2 z2J (d2 z6Z (z0c 0) (dC (.int 2))) (dC (.int 2))))) y0U [(d2 y4g (dC (.int 6)) (d2 y9Q (dC (.int 2)) (d2 z2J (d2 z6Z (z0c 0) (dC (.int 2))) (dC (.int 2)))))])
 (z0J (m1 1 (d2 z8o (dC (.int 5)) (d2 z2J (d2 z6Z (z0c 0) (dC (.int 4))) (dC (.int 2)))) y0U [(d2 y4g (dC (.int 6)) (d2 z2J (d2 z6Z (z0c 0) (dC (.int 4))) (dC (.int 2))))])
 (z0J (z6b 2 (d2 z8o (dC (.int 1)) (d2 z2J (d2 z6Z (z0c 0) (dC (.int 8))) (dC (.int 6)))))
 (z0J (z5H 3 (z0w (z0K (z1g (dC (.int 7))) z3p (d2 z2J (d2 z8o (d2 z6Z (z0c 0) (dC (.int 48))) (d2 y9Q (z0c 2) (z0c 7))) (dC (.int 7))))))
 (z0J (z5H 4 (mkL (z0K (z1g (dC (.int 7))) z3p (z0w (z0K (z1g (dC (.int 7))) z3p (dC (.bl false)))))))
 (z0J (frzO 1 (z9d 5 (z1g (dC (.int 7))) (z9d 6 (z5I (d2 ixD (z0c 1) (z0c 5))) (st1 4 (d2 ixD (z0c 3) (z0c 5)) (d2 ixD (z0c 3) (z0c 6)) (dC (.bl true))))))
 (y7q 4))))))))))
def z2S:List D->Option D:=z1G 1 6 z4e
def z2H:SS->Option Out:=(z0J (z5H 1 (z0w (z0m [(mkT (z0m [(dC (.int 1)),(mkT (z4G (z1g (z0k z2t [(z0c 0)]))))]))])))
 (z0J (z9d 2 (z1g (z0k z2t [(z0c 0)])) (z9d 3 (z1g (z0k z2t [(z0c 0)])) (ifO (z0q (d2 ixD (d2 ixD (z0c 0) (z0c 2)) (z0c 3))) (z0J (z5H 4 (z0w (z0K (z1g (z0k z2t [(z0c 0)])) (z3e (z0H (d2 neD (z0c 5) (z0c 2))) (z0H (d2 neD (z0c 5) (z0c 3)))) (z0c 5))))
 (z0J (m0 1 y0U [(mkT (z0m [(dC (.int 1)),(z0k x1U [(mkL (y4h (mkL (z0m [(z0c 2),(z0c 3)])) (z0c 4)))])]))])
 (m0 1 y0U [(mkT (z0m [(dC (.int 1)),(z0k x1U [(mkL (y4h (mkL (x1p (z0c 4) (d1 x3f (dC (.int 1))))) (mkL (z0m [(z0c 2),(z0c 3)]))))])]))]))) z1q)))
 (y7q 1)))
def z1O:List D->Option D:=z1G 1 4 z2H
def z3E:SS->Option Out:=(z0J (tryO (retX (z6w z1x [(z0c 0),(z0c 1),(z0c 2)])) (fun c=>match c with | 0=>fun _=>none | 1=>(y7H 3 "BadBallot" (ifO (z3e (z0q (d1 (z6J ["NothingLeft"] ["Even", "BadBallot", "NothingLeft"]) (z0c 3))) (z3e (z0q (d1 (z6J ["Even", "BadBallot", "NothingLeft"] ["Even", "BadBallot", "NothingLeft"]) (z0c 3))) (z2W (z0q (d1 (z6J ["BadBallot"] ["Even", "BadBallot", "NothingLeft"]) (z0c 3)))))) (z2y (dC (.str "best"))) z1q)) | 2=>(y7H 3 "Even" (ifO (z3e (z0q (d1 (z6J ["NothingLeft"] ["Even", "BadBallot", "NothingLeft"]) (z0c 3))) (z3e (z0q (d1 (z6J ["Even", "BadBallot", "NothingLeft"] ["Even", "BadBallot", "NothingLeft"]) (z0c 3))) (z2W (z0q (d1 (z6J ["BadBallot"] ["Even", "BadBallot", "NothingLeft"]) (z0c 3)))))) (z2y (dC (.str "best"))) z1q)) | 3=>(y7H 3 "NothingLeft" (ifO (z3e (z0q (d1 (z6J ["NothingLeft"] ["Even", "BadBallot", "NothingLeft"]) (z0c 3))) (z3e (z0q (d1 (z6J ["Even", "BadBallot", "NothingLeft"] ["Even", "BadBallot", "NothingLeft"]) (z0c 3))) (z2W (z0q (d1 (z6J ["BadBallot"] ["Even", "BadBallot", "NothingLeft"]) (z0c 3)))))) (z2y (dC (.str "best"))) z1q)) | _+4=>fun _=>none))
 (z2y (dC (.str "another"))))
def z3s:List D->Option D:=z1G 3 1 z3E
def z1C:SS->Option Out:=(z0J (z5H 3 (z0w (z4J y0x [(z0c 0)])))
 (z0J (z5H 4 (z0k z3s [(z0c 3),(z0c 1),(z0c 2)]))
 (z0J (z5H 5 (z0w (z4J y0x [(d2 ixD (d2 ixD (z0c 0) (z0c 1)) (dC (.int 1)))])))
 (z0J (z6b 6 (d2 lixF (z0c 5) (z0c 2)))
 (z0J (ifO (z0H (d2 neD (z0c 3) (z0c 0))) (z2y (dC (.bl false))) z1q)
 (z0J (ifO (z0H (d2 eqD (z0c 6) (dC (.int 0)))) (z2y (d2 eqD (z0c 4) (dC (.str "best")))) z1q)
 (z0J (st0 5 (z0c 6) (d2 ixD (z0c 5) (d2 y4g (z0c 6) (dC (.int 1)))))
 (z0J (st0 5 (d2 y4g (z0c 6) (dC (.int 1))) (z0c 2))
 (z0J (z5H 7 (z0w (y4h (mkL (y4h (mkL (y7u (z0c 0) z2Y (z6n (z0c 1)))) (mkL (z0m [(mkT (z0m [(d2 ixD (d2 ixD (z0c 0) (z0c 1)) (dC (.int 0))),(z0k x1U [(z0c 5)])]))])))) (mkL (y7u (z0c 0) (z6n (d2 z8o (z0c 1) (dC (.int 1)))) z2Y)))))
 (z2y (y6Y (dIs "list" (z0c 4)) (y6Y (d2 eqD (z0c 4) (z0c 7)) (dIs "tuple" (d2 ixD (z0c 4) (z0c 1)))))))))))))))
def z1a:List D->Option D:=z1G 3 5 z1C
def g_law:SS->Option Out:=(z0J (z6b 1 (dC (.int 1)))
 (z0J (ifO (z0H (d2 gtI (z0k z2t [(z0c 0)]) (dC (.int 0)))) (z6b 1 (d2 z8o (dC (.int 1)) (d2 z2J (d2 ixD (z0c 0) (dC (.int 0))) (dC (.int 6))))) z1q)
 (z0J (y7a 2 (z0k z2U [(z0c 0),(z0c 1)]))
 (z0J (ifO (z3e (z0H (d2 gtI (z0k z2t [(z0c 0)]) (dC (.int 0)))) (z0H (d2 eqD (d2 z2J (d2 z6Z (d2 ixD (z0c 0) (dC (.int 0))) (dC (.int 6))) (dC (.int 6))) (dC (.int 1))))) (z0J (z6b 1 (dC (.int 7)))
 (y7a 2 (z0k z1O [(z0k z2S [(d2 z6Z (d2 ixD (z0c 0) (dC (.int 0))) (dC (.int 36)))])]))) z1q)
 (z0J (y7a 3 (y1O z4x [(mkL (z4J y0x [(z0c 2)])),(z0c 1)]))
 (z0J (y7a 4 (z0k z1W [(z0c 3)]))
 (z0J (z9d 5 (z1g (z0c 1)) (z0J (z5H 6 (z0k z2w [(z0c 3),(z0c 5)]))
 (z0J (z6b 7 (mkT (z0m [(d2 inD (z0c 5) (z0k z1U [(z0c 3)])),(d2 inD (z0c 5) (z0k z0X [(z0c 3)])),(d2 inD (z0c 5) (z0k z3y [(z0c 3)])),(d2 gtI (d2 ixD (z0c 4) (z0c 5)) (dC (.int 0)))])))
 (z0J (ifO (x0g (z2W (z0q (dIs "tuple" (z0c 6)))) (x0g (z0H (d2 neD (z0c 6) (z0c 7))) (z0H (d2 gtI (z0k z2t [(mkL (z0K (z5I (z0c 6)) (z0H (d2 x1T (z0c 9) (mkL (z0m [(dC (.bl false)),(dC (.bl true))])))) (z0c 9)))]) (dC (.int 0)))))) (z2y (dC (.bl false))) z1q)
 (z0J (ifO (z0H (d2 gtI (z0k z2t [(mkL (z0K (z5I (z0c 6)) (z2W (z0q (dIs "bool" (z0c 9)))) (z0c 9)))]) (dC (.int 0)))) (z2y (dC (.bl false))) z1q)
 (z0J (ifO (x0g (z3e (x0g (z0q (d2 ixD (z0c 6) (dC (.int 2)))) (z0q (d2 ixD (z0c 6) (dC (.int 3))))) (z2W (z0q (d2 ixD (z0c 6) (dC (.int 1)))))) (z3e (z0q (d2 ixD (z0c 6) (dC (.int 1)))) (z2W (z0q (d2 ixD (z0c 6) (dC (.int 0))))))) (z2y (dC (.bl false))) z1q)
 (z0J (z6b 8 (d2 z2J (d2 y9Q (d2 z8o (z0c 5) (z0k z2t [(z0c 2)])) (dC (.int 7))) (z0k z2t [(z0c 2)])))
 (ifO (z2W (z0q (z0k z1a [(z0c 2),(z0c 8),(z0c 5)]))) (z2y (dC (.bl false))) z1q))))))))
 (z2y (dC (.bl true))))))))))
def y6G:List D->Option D:=z1G 1 8 g_law
structure Txt(mg:Str->Option Value):Prop where
 j3:mg "all" = none
 iK:mg "enumerate" = none
 fS:mg "range" = none
 fU:mg "len" = none
 kQ:mg "any" = none
 ko:mg "sorted" = none
 kR:mg "int" = none
 fR:mg "isinstance" = none
 kj:mg "bool" = none
 kq:mg "sum" = none
 kS:mg "min" = none
 kT:mg "max" = none
 kU:mg "abs" = none
 kX:mg "zip" = none
 gI:mg "tuple" = none
 jj:mg "list" = none
 ib:mg "ValueError" = none
structure Cls(K:aa)(mg:Str->Option Value)(base:Heap)(cl:Nat->Value):Prop where
 j4:∃C,cl 0 = .ref C∧OwnCls "AskError" C x2J "ValueError.__new__" mg base∧aA K mainGlobals "AskError" = some (some (.ref C))∧z4W K C=true
 jt:∃C,cl 1 = .ref C∧OwnCls "BadBallot" C x2J "ValueError.__new__" mg base∧aA K mainGlobals "BadBallot" = some (some (.ref C))∧z4W K C=true
 kl:∃C,cl 2 = .ref C∧OwnCls "Even" C x2J "ValueError.__new__" mg base∧aA K mainGlobals "Even" = some (some (.ref C))∧z4W K C=true
 ji:∃C,cl 3 = .ref C∧OwnCls "NothingLeft" C x2J "ValueError.__new__" mg base∧aA K mainGlobals "NothingLeft" = some (some (.ref C))∧z4W K C=true
 f7:∀C,cl 0 = .ref C->bR K (cl 2) (.ref C)=some true
 e_BadBallot_AskError:∀C,cl 0 = .ref C->bR K (cl 1) (.ref C)=some true
 e_NothingLeft_AskError:∀C,cl 0 = .ref C->bR K (cl 3) (.ref C)=some true
 gY:∀D,cl 3 = .ref D->∀x,x∈(["Even", "BadBallot", "NothingLeft"]:List Str)->∀C,aA K mainGlobals x=some (some (.ref C))->aN K (.ref C) (.ref D)=some ((["NothingLeft"]:List Str).contains x)
 ic:∀x,x∈(["Even", "BadBallot", "NothingLeft"]:List Str)->∀C,aA K mainGlobals x=some (some (.ref C))->aN K (.ref C) (.type "ValueError")=some ((["Even", "BadBallot", "NothingLeft"]:List Str).contains x)
 iL:∀D,cl 1 = .ref D->∀x,x∈(["Even", "BadBallot", "NothingLeft"]:List Str)->∀C,aA K mainGlobals x=some (some (.ref C))->aN K (.ref C) (.ref D)=some ((["BadBallot"]:List Str).contains x)
section
variable{P:dw}{w:fE}{K:aa}{mg:Str->Option Value}{base:Heap}{cl:Nat->Value}
theorem y9z:FnScope x3a y5b (z0e y0z):=z0B
theorem x1b(B:FnB K mg "picked" y0z y5b)(T:Txt mg):DefOk P w K mg base 1 "picked" (spN K z5s):=
 B.on fun F hm hb=>z2I (k:=0) (g:=y0y) F hm hb y9z rfl rfl fun cdv A outer s H E hr=>
  (z0j (z1R (z5A (z1e (N':=["row", "things", "other"])  rfl ⟨rfl,rfl,rfl,rfl,rfl⟩ (n:=2) rfl (z0D (z0g 1 (pv 1))) (fun _ _ _ _ _=>z0l (i:=2) nd0 rfl (Or.inl rfl)) (fun _ _ _ _ _=>z0A) (fun _ _ _ _ _=>(z0C (z0g 0 (pv 0)) (z0g 2 (pv 2))))))))
theorem kA:FnScope kG x4O (z0e x1j):=z0B
theorem kB(B:FnB K mg "part" x1j x4O)(T:Txt mg)(ju:DefOk P w K mg base 1 "picked" (spN K z5s)):DefOk P w K mg base 2 "part" (spN K z8S):=
 B.on fun F hm hb=>z2I (k:=1) (g:=x0F) F hm hb kA rfl rfl fun cdv A outer s H E hr=>
  (z0j (z1R (z5P (N':=["table", "things", "one"])  rfl ⟨rfl,rfl,rfl,rfl,rfl⟩ (n:=2) rfl (z0D (z0g 1 (pv 1))) (fun _ _ _ _ _=>z0l (i:=2) nd1 rfl (Or.inl rfl)) (fun _ _ _ _ _=>z0A) (fun _ _ _ _ _=>(z0i ju (hr.mono (by decide)) rfl (z0a (z0C (z0g 0 (pv 0)) (z0g 2 (pv 2))) (z0a (z0g 1 (pv 1)) z0b)))))))
theorem y7o:FnScope x2L y5k (z0e y0R):=z0B
theorem y9E(B:FnB K mg "column" y0R y5k)(T:Txt mg):DefOk P w K mg base 1 "column" (spN K z7g):=
 B.on fun F hm hb=>z2I (k:=0) (g:=z9S) F hm hb y7o rfl rfl fun cdv A outer s H E hr=>
  (z0j (z1R (z5A (z1e (N':=["table", "one", "row"])  rfl ⟨rfl,rfl,rfl,rfl,rfl⟩ (n:=2) rfl (z0D (z0g 0 (pv 0))) (fun _ _ _ _ _=>z0l (i:=2) nd2 rfl (Or.inl rfl)) (fun _ _ _ _ _=>z0A) (fun _ _ _ _ _=>(z0C (z0g 2 (pv 2)) (z0g 1 (pv 1))))))))
theorem y2e:FnScope y3m z7X (z0e z4S):=z0B
theorem y2C(B:FnB K mg "beats_all" z4S z7X)(T:Txt mg):DefOk P w K mg base 1 "beats_all" (spN K z0Y):=
 B.on fun F hm hb=>z2I (k:=0) (g:=z4X) F hm hb y2e rfl rfl fun cdv A outer s H E hr=>
  (z0j (z0x (y7t rfl rfl T.j3 (z3R (z1e (N':=["table", "one", "things", "other"])  rfl ⟨rfl,rfl,rfl,rfl,rfl⟩ (n:=3) rfl (z0D (z0g 2 (pv 2))) (fun _ _ _ _ _=>z0l (i:=3) nd3 rfl (Or.inl rfl)) (fun _ _ _ _ _=>z0A) (fun _ _ _ _ _=>(z0C (z0C (z0g 0 (pv 0)) (z0g 1 (pv 1))) (z0g 3 (pv 3)))))))))
theorem z8F:FnScope y0d z5f (z0e z3F):=z0B
theorem z8u(B:FnB K mg "places_true" z3F z5f)(T:Txt mg):DefOk P w K mg base 1 "places_true" (spN K z1r):=
 B.on fun F hm hb=>z2I (k:=0) (g:=z3G) F hm hb z8F rfl rfl fun cdv A outer s H E hr=>
  (z0j (z1R (z5A (y0I (N':=["marks", "place", "mark"])  rfl ⟨rfl,rfl,rfl,rfl,rfl⟩ (n:=1) rfl (z9p rfl T.iK (z0g 0 (pv 0))) (fun _ _ _ _ _=>y8I rfl (z0l (i:=1) nd4 rfl (Or.inl rfl)) (z0l (i:=2) nd4 rfl (Or.inl rfl))) (fun _ _ _ _ _=>z0P (z0p (z0g 2 (pv 2)))) (fun _ _ _ _ _=>(z0g 1 (pv 1)))))))
theorem y1G:FnScope y3c z8g (z0e z5d):=z0B
theorem y2g(B:FnB K mg "beaten_by" z5d z8g)(T:Txt mg)(G_places_true:DefOk P w K mg base 1 "places_true" (spN K z1r)):DefOk P w K mg base 2 "beaten_by" (spN K z0I):=
 B.on fun F hm hb=>z2I (k:=1) (g:=z4L) F hm hb y1G rfl rfl fun cdv A outer s H E hr=>
  (z0j (z1R (z0i G_places_true (hr.mono (by decide)) rfl (z0a (z0C (z0g 0 (pv 0)) (z0g 1 (pv 1))) z0b))))
theorem z9K:FnScope y1C z6B (z0e z4b):=z0B
theorem y0P(B:FnB K mg "beaters_of" z4b z6B)(T:Txt mg)(jv:DefOk P w K mg base 1 "column" (spN K z7g))(G_places_true:DefOk P w K mg base 1 "places_true" (spN K z1r)):DefOk P w K mg base 2 "beaters_of" (spN K z2M):=
 B.on fun F hm hb=>z2I (k:=1) (g:=z3W) F hm hb z9K rfl rfl fun cdv A outer s H E hr=>
  (z0j (z1R (z0i G_places_true (hr.mono (by decide)) rfl (z0a (z1H (z0i jv (hr.mono (by decide)) rfl (z0a (z0g 0 (pv 0)) (z0a (z0g 1 (pv 1)) z0b)))) z0b))))
theorem y9e:FnScope x3m y4C (z0e y0j):=z0B
theorem x0c(B:FnB K mg "covers" y0j y4C)(T:Txt mg)(G_beats_all:DefOk P w K mg base 1 "beats_all" (spN K z0Y))(G_beaten_by:DefOk P w K mg base 2 "beaten_by" (spN K z0I)):DefOk P w K mg base 3 "covers" (spN K z6U):=
 B.on fun F hm hb=>z2I (k:=2) (g:=z9W) F hm hb y9e rfl rfl fun cdv A outer s H E hr=>
  (z0j (z0x (z7l (z0C (z0C (z0g 0 (pv 0)) (z0g 1 (pv 1))) (z0g 2 (pv 2))) (y2x (z1H (z0i G_beats_all (hr.mono (by decide)) rfl (z0a (z0g 0 (pv 0)) (z0a (z0g 1 (pv 1)) (z0a (z1H (z0i G_beaten_by (hr.mono (by decide)) rfl (z0a (z0g 0 (pv 0)) (z0a (z0g 2 (pv 2)) z0b)))) z0b)))))))))
theorem z9u:FnScope y2H z6G (z0e z4r):=z0B
theorem y0C(B:FnB K mg "is_covered" z4r z6G)(T:Txt mg)(jw:DefOk P w K mg base 3 "covers" (spN K z6U)):DefOk P w K mg base 4 "is_covered" (spN K z2P):=
 B.on fun F hm hb=>z2I (k:=3) (g:=z3Y) F hm hb z9u rfl rfl fun cdv A outer s H E hr=>
  (z0j (z0x (pd_any rfl rfl T.kQ (z1H (z5P (N':=["table", "one", "other"])  rfl ⟨rfl,rfl,rfl,rfl,rfl⟩ (n:=2) rfl (z1c rfl T.fS (z0L rfl T.fU (z0g 0 (pv 0)))) (fun _ _ _ _ _=>z0l (i:=2) nd5 rfl (Or.inl rfl)) (fun _ _ _ _ _=>z0A) (fun _ _ _ _ _=>(z0i jw (hr.mono (by decide)) rfl (z0a (z0g 0 (pv 0)) (z0a (z0g 2 (pv 2)) (z0a (z0g 1 (pv 1)) z0b))))))))))
theorem y1Z:FnScope y3e z7I (z0e z4N):=z0B
theorem y1g(B:FnB K mg "uncovered" z4N z7I)(T:Txt mg)(ig:DefOk P w K mg base 4 "is_covered" (spN K z2P)):DefOk P w K mg base 5 "uncovered" (spN K z0X):=
 B.on fun F hm hb=>z2I (k:=4) (g:=z4O) F hm hb y1Z rfl rfl fun cdv A outer s H E hr=>
  (z0j (z1R (z5A (z1e (N':=["table", "one"])  rfl ⟨rfl,rfl,rfl,rfl,rfl⟩ (n:=1) rfl (z1c rfl T.fS (z0L rfl T.fU (z0g 0 (pv 0)))) (fun _ _ _ _ _=>z0l (i:=1) nd6 rfl (Or.inl rfl)) (fun _ _ _ _ _=>z0P (z2k (z0p (z1H (z0i ig (hr.mono (by decide)) rfl (z0a (z0g 0 (pv 0)) (z0a (z0g 1 (pv 1)) z0b))))))) (fun _ _ _ _ _=>(z0g 1 (pv 1)))))))
theorem y3D:FnScope y6P z8X (z0e z6i):=z0B
theorem y3V(B:FnB K mg "is_chain" z6i z8X)(T:Txt mg)(G_beats_all:DefOk P w K mg base 1 "beats_all" (spN K z0Y)):DefOk P w K mg base 2 "is_chain" (spN K z4v):=
 B.on fun F hm hb=>z2I (k:=1) (g:=z4u) F hm hb y3D rfl rfl fun cdv A outer s H E hr=>
  (z0h (z5Q (z6K hr.units (z0L rfl T.fU (z0g 1 (pv 1))) z0f) (z0j (z0x z4B)) z0U)
   (z0j (z0x (y7t rfl rfl T.j3 (z3R (y0I (N':=["table", "things", "place", "one"])  rfl ⟨rfl,rfl,rfl,rfl,rfl⟩ (n:=2) rfl (z9p rfl T.iK (z0g 1 (pv 1))) (fun _ _ _ _ _=>y8I rfl (z0l (i:=2) nd7 rfl (Or.inl rfl)) (z0l (i:=3) nd7 rfl (Or.inl rfl))) (fun _ _ _ _ _=>z0A) (fun _ _ _ _ _=>(z1H (z0i G_beats_all (hr.mono (by decide)) rfl (z0a (z0g 0 (pv 0)) (z0a (z0g 3 (pv 3)) (z0a (z3R (z2L (z0g 1 (pv 1)) (z1L (z2q (z0g 2 (pv 2)) z0f)) z2s)) z0b))))))))))))
theorem y6O:FnScope x1k y1Y (z0e z7H):=z0B
theorem y6K(B:FnB K mg "beaters" z7H y1Y)(T:Txt mg)(G_beats_all:DefOk P w K mg base 1 "beats_all" (spN K z0Y)):DefOk P w K mg base 2 "beaters" (spN K z2E):=
 B.on fun F hm hb=>z2I (k:=1) (g:=z7h) F hm hb y6O rfl rfl fun cdv A outer s H E hr=>
  (z0j (z1R (z5A (z1e (N':=["table", "things", "one"])  rfl ⟨rfl,rfl,rfl,rfl,rfl⟩ (n:=2) rfl (z1c rfl T.fS (z0L rfl T.fU (z0g 0 (pv 0)))) (fun _ _ _ _ _=>z0l (i:=2) nd1 rfl (Or.inl rfl)) (fun _ _ _ _ _=>z0P (z0p (z1H (z0i G_beats_all (hr.mono (by decide)) rfl (z0a (z0g 0 (pv 0)) (z0a (z0g 2 (pv 2)) (z0a (z0g 1 (pv 1)) z0b))))))) (fun _ _ _ _ _=>(z0g 2 (pv 2)))))))
theorem y9o:FnScope x3r y4q (z0e z9Y):=z0B
theorem x1i(B:FnB K mg "stands" z9Y y4q)(T:Txt mg)(i7:DefOk P w K mg base 2 "is_chain" (spN K z4v))(gJ:DefOk P w K mg base 2 "beaters" (spN K z2E)):DefOk P w K mg base 3 "stands" (spN K z5n):=
 B.on fun F hm hb=>z2I (k:=2) (g:=y0g) F hm hb y9o rfl rfl fun cdv A outer s H E hr=>
  (z0j (z0x (z7l (z1H (z0i i7 (hr.mono (by decide)) rfl (z0a (z0g 0 (pv 0)) (z0a (z0g 1 (pv 1)) z0b)))) (y2x (x3z hr.units (z0L rfl T.fU (z1H (z0i gJ (hr.mono (by decide)) rfl (z0a (z0g 0 (pv 0)) (z0a (z0g 1 (pv 1)) z0b))))) z0f)))))
theorem gm:FnScope z8s z2X (z0e z1Z):=z0B
theorem z3P(B:FnB K mg "ended_chains" z1Z z2X)(T:Txt mg):∀n:Nat,DefOk P w K mg base (1+n) "ended_chains" (spM2 K (z1j n))
 |0=>B.on fun F hm hb=>defM2 (k:=0) (g:=fun _=>none) F hm hb gm rfl rfl fun cdv A outer s H H0 E hr=>y5p
 |n+1=>by
  have G_ended_chains:=z3P B T n
  exact B.on fun F hm hb=>defM2 (k:=1+n) (g:=z2a (z1j n)) F hm hb gm rfl rfl fun cdv A outer s H H0 E hr=>
  (z0h (z5Q (z2k (z0p (z0g 2 (pv 2)))) (z0j (s_ret1 (pv 1))) z0U)
   (z0h (z1h (z0F (i:=3) gm.nd rfl (Or.inl rfl) (z5A (z0W z0b (bZ rfl)))))
   (z0h (z4C PassesOwn.never rfl (z0D (z0g 2 (pv 2))) (z0l (i:=4) gm.nd rfl (Or.inr rfl)) (z0j (y8r (pv 3) (y2a G_ended_chains (hr.mono (by omega)) rfl (z0g 0 (pv 0)) (z5A (z5x (z0g 1 (pv 1)) (z3R (z0W (z0a (z0g 4 (pv 4)) z0b) (bZ rfl))))) (z0a (z3R (z1e (N':=["table", "chain", "further", "chains", "thing", "other"])  rfl ⟨rfl,rfl,rfl,rfl,rfl⟩ (n:=5) rfl (z0D (z0g 2 (pv 2))) (fun _ _ _ _ _=>z0l (i:=5) nd8 rfl (Or.inl rfl)) (fun _ _ _ _ _=>z0P (z0p (z0C (z0C (z0g 0 (pv 0)) (z0g 4 (pv 4))) (z0g 5 (pv 5))))) (fun _ _ _ _ _=>(z0g 5 (pv 5))))) z0b)))))
   (z0j (z7z (pv 3))))))
theorem z7N(B:FnB K mg "ended_chains" z1Z z2X)(T:Txt mg):DefOk P w K mg base 13 "ended_chains" (spM2 K z1X):=z3P B T 12
theorem gP:FnScope y0f z5h (z0e z3u):=z0B
theorem z8z(B:FnB K mg "crown_paper" z3u z5h)(T:Txt mg)(G_beaten_by:DefOk P w K mg base 2 "beaten_by" (spN K z0I))(gJ:DefOk P w K mg base 2 "beaters" (spN K z2E))(jx:DefOk P w K mg base 3 "stands" (spN K z5n))(G_ended_chains:DefOk P w K mg base 13 "ended_chains" (spM2 K z1X)):DefOk P w K mg base 14 "crown_paper" (spR K z1M):=
 B.on fun F hm hb=>defR (k:=13) (g:=z3r) F hm hb gP rfl rfl fun cdv A outer s H E B hr=>
  (z0h (z6v (z0F (i:=2) gP.nd rfl (Or.inl rfl) (z1H (y2a G_ended_chains (hr.mono (by decide)) rfl (z0g 0 (pv 0)) (z5A (z0W (z0a (z0g 1 (pv 1)) z0b))) (z0a (z1H (z0i G_beaten_by (hr.mono (by decide)) rfl (z0a (z0g 0 (pv 0)) (z0a (z0g 1 (pv 1)) z0b)))) z0b)))))
   (z0h (z4C PassesOwn.never rfl (z0D (z0g 2 (pv 2))) (z0l (i:=3) gP.nd rfl (Or.inl rfl)) (z0j (z5Q (z0p (z1H (z0i jx (hr.mono (by decide)) rfl (z0a (z0g 0 (pv 0)) (z0a (z0g 3 (pv 3)) z0b))))) (z0j (y9a (z3o (z0a z3S (z0a (z0g 3 (pv 3)) z0b))))) z0U)))
   (z0j (y9a (z3o (z0a z3S (z0a (z3R (z1e (N':=["table", "thing", "chains", "3", "chain"])  rfl ⟨rfl,rfl,rfl,rfl,rfl⟩ (n:=4) rfl (z0D (z0g 2 (pv 2))) (fun _ _ _ _ _=>z0l (i:=4) nd9 rfl (Or.inl rfl)) (fun _ _ _ _ _=>z0A) (fun _ _ _ _ _=>(z3o (z0a (z0g 4 (pv 4)) (z0a (z0C (z1H (z0i gJ (hr.mono (by decide)) rfl (z0a (z0g 0 (pv 0)) (z0a (z0g 4 (pv 4)) z0b)))) z0f) z0b)))))) z0b)))))))
theorem y7k:FnScope x2Q y4i (z0e z9P):=z0B
theorem y8p(B:FnB K mg "crowns" z9P y4i)(T:Txt mg)(gZ:DefOk P w K mg base 14 "crown_paper" (spR K z1M)):DefOk P w K mg base 15 "crowns" (spN K z3y):=
 B.on fun F hm hb=>z2I (k:=14) (g:=z9o) F hm hb y7k rfl rfl fun cdv A outer s H E hr=>
  (z0j (z1R (z5A (z1e (N':=["table", "thing"])  rfl ⟨rfl,rfl,rfl,rfl,rfl⟩ (n:=1) rfl (z1c rfl T.fS (z0L rfl T.fU (z0g 0 (pv 0)))) (fun _ _ _ _ _=>z0l (i:=1) nd10 rfl (Or.inl rfl)) (fun _ _ _ _ _=>z0P (z6K hr.units (z0C (y4o gZ (hr.mono (by decide)) rfl (z0a (z0g 0 (pv 0)) (z0a (z0g 1 (pv 1)) z0b))) z0f) z3S)) (fun _ _ _ _ _=>(z0g 1 (pv 1)))))))
theorem fX:FnScope y1a z6D (z0e z4l):=z0B
theorem z9j(B:FnB K mg "steps_from" z4l z6D)(T:Txt mg)(G_beaten_by:DefOk P w K mg base 2 "beaten_by" (spN K z0I)):DefOk P w K mg base 3 "steps_from" (spN K z2N):=
 B.on fun F hm hb=>z2I (k:=2) (g:=z4o) F hm hb fX rfl rfl fun cdv A outer s H E hr=>
  (z0h (z1h (z0F (i:=2) fX.nd rfl (Or.inl rfl) (x2p (z0g 1 (pv 1)) (z0g 1 (pv 1)))))
   (z0h (z1h (z0F (i:=3) fX.nd rfl (Or.inl rfl) (z5A (z0W (z0a (z0g 1 (pv 1)) z0b)))))
   (z0h (y3v 100 PassesOwn.never (z0p (z0g 3 (pv 3))) (z0h (z1h (z0F (i:=4) fX.nd rfl (Or.inl rfl) (z5A (z0W z0b))))
   (z0h (s_frz 3 (z4C PassesOwn.never rfl (z0D (z0g 3 (pv 3))) (z0l (i:=5) fX.nd rfl (Or.inl rfl)) (z0j (z4C PassesOwn.never rfl (z0D (z1H (z0i G_beaten_by (hr.mono (by decide)) rfl (z0a (z0g 0 (pv 0)) (z0a (z0g 5 (pv 5)) z0b))))) (z0l (i:=6) fX.nd rfl (Or.inl rfl)) (z0j (z5Q (pt_dnin hr.units (z0g 6 (pv 6)) (z0g 2 (pv 2))) (z0h (x4S hr.units (pv 2) (z0g 6 (pv 6)) (z0g 5 (pv 5)))
   (z0j (s_m0 PySem.F.slot_list_append PySem.F.type_list_append z1y z2g (pv 4) (z0a (z0g 6 (pv 6)) z0b)))) z0U))))))
   (z0j (s_mov (by decide) (z0F (i:=3) fX.nd rfl (Or.inl rfl) (pv 4)))))))
   (z0j (z7z (pv 2))))))
theorem y6m:FnScope y7X y1F (z0e z7E):=z0B
theorem y6r(B:FnB K mg "reached" z7E y1F)(T:Txt mg)(ii:DefOk P w K mg base 3 "steps_from" (spN K z2N)):DefOk P w K mg base 4 "reached" (spN K z4s):=
 B.on fun F hm hb=>z2I (k:=3) (g:=z7W) F hm hb y6m rfl rfl fun cdv A outer s H E hr=>
  (z0j (z1R (z5A (y6c rfl rfl T.ko (z1H (z0i ii (hr.mono (by decide)) rfl (z0a (z0g 0 (pv 0)) (z0a (z0g 1 (pv 1)) z0b))))))))
theorem z8v:FnScope z9L z5q (z0e z3K):=z0B
theorem z8D(B:FnB K mg "places_with" z3K z5q)(T:Txt mg):DefOk P w K mg base 1 "places_with" (spN K z1K):=
 B.on fun F hm hb=>z2I (k:=0) (g:=z3J) F hm hb z8v rfl rfl fun cdv A outer s H E hr=>
  (z0j (z1R (z5A (y0I (N':=["counts", "wanted", "place", "count"])  rfl ⟨rfl,rfl,rfl,rfl,rfl⟩ (n:=2) rfl (z9p rfl T.iK (z0g 0 (pv 0))) (fun _ _ _ _ _=>y8I rfl (z0l (i:=2) nd11 rfl (Or.inl rfl)) (z0l (i:=3) nd11 rfl (Or.inl rfl))) (fun _ _ _ _ _=>z0P (z6K hr.units (z0g 3 (pv 3)) (z0g 1 (pv 1)))) (fun _ _ _ _ _=>(z0g 2 (pv 2)))))))
theorem jR:FnScope kw y9v (z0e y3G):=z0B
theorem x3y(B:FnB K mg "rings" y3G y9v)(T:Txt mg)(jk:DefOk P w K mg base 4 "reached" (spN K z4s))(g4:DefOk P w K mg base 1 "places_with" (spN K z1K)):DefOk P w K mg base 5 "rings" (spN K z9Z):=
 B.on fun F hm hb=>z2I (k:=4) (g:=y3P) F hm hb jR rfl rfl fun cdv A outer s H E hr=>
  (z0h (z1h (z0F (i:=1) jR.nd rfl (Or.inr rfl) (z5A (z1e (N':=["table", "counts", "one"])  rfl ⟨rfl,rfl,rfl,rfl,rfl⟩ (n:=2) rfl (z1c rfl T.fS (z0L rfl T.fU (z0g 0 (pv 0)))) (fun _ _ _ _ _=>z0l (i:=2) nd13 rfl (Or.inl rfl)) (fun _ _ _ _ _=>z0A) (fun _ _ _ _ _=>(z0L rfl T.fU (z1H (z0i jk (hr.mono (by decide)) rfl (z0a (z0g 0 (pv 0)) (z0a (z0g 2 (pv 2)) z0b))))))))))
   (z0j (z1R (z5P (N':=["table", "counts", "count"])  rfl ⟨rfl,rfl,rfl,rfl,rfl⟩ (n:=2) rfl (pi_rngN rfl T.fS (z0L rfl T.fU (z0g 0 (pv 0))) z0f (z8Q z0f)) (fun _ _ _ _ _=>z0l (i:=2) nd12 rfl (Or.inl rfl)) (fun _ _ _ _ _=>z0P (pt_in hr.units (z0g 2 (pv 2)) (z0g 1 (pv 1)))) (fun _ _ _ _ _=>(z0i g4 (hr.mono (by decide)) rfl (z0a (z0g 1 (pv 1)) (z0a (z0g 2 (pv 2)) z0b))))))))
theorem y3u:FnScope y6k z8Z (z0e z5O):=z0B
theorem y3B(B:FnB K mg "top_ring" z5O z8Z)(T:Txt mg)(jJ:DefOk P w K mg base 5 "rings" (spN K z9Z)):DefOk P w K mg base 6 "top_ring" (spN K z1U):=
 B.on fun F hm hb=>z2I (k:=5) (g:=z5S) F hm hb y3u rfl rfl fun cdv A outer s H E hr=>
  (z0j (z1R (pn_ixN (z0i jJ (hr.mono (by decide)) rfl (z0a (z0g 0 (pv 0)) z0b)) z0f)))
theorem y3k:FnScope y5X z8O (z0e z5Y):=z0B
theorem y3I(B:FnB K mg "is_thing" z5Y z8O)(T:Txt mg):DefOk P w K mg base 1 "is_thing" (spN K z3n):=
 B.on fun F hm hb=>z2I (k:=0) (g:=z5L) F hm hb y3k rfl rfl fun cdv A outer s H E hr=>
  (z0j (z0x (z7l (x2n rfl T.kR rfl T.fR (z0g 0 (pv 0))) (z7l (pd_not (y1P rfl T.kj rfl T.fR (z0g 0 (pv 0)))) (y2x (x3S op_le op_lt z4w z4w z0f (z0g 0 (pv 0)) (z0g 1 (pv 1))))))))
theorem gn:FnScope z6f z3m (z0e z1S):=z0B
theorem z5w(B:FnB K mg "tells_each_once" z1S z3m)(T:Txt mg)(i8:DefOk P w K mg base 1 "is_thing" (spN K z3n)):DefOk P w K mg base 2 "tells_each_once" (spN K z0T):=
 B.on fun F hm hb=>z2I (k:=1) (g:=z1p) F hm hb gn rfl rfl fun cdv A outer s H E hr=>
  (z0h (z5Q (y8U hr.units (z0L rfl T.fU (z0g 0 (pv 0))) (z0g 1 (pv 1))) (z0j (z0x z4B)) z0U)
   (z0h (z1h (z0F (i:=2) gn.nd rfl (Or.inl rfl) pn_dnew))
   (z0h (z4C PassesOwn.never rfl (z0D (z0g 0 (pv 0))) (z0l (i:=3) gn.nd rfl (Or.inl rfl)) (z0h (z5Q (PW.pt (z9f (z2k (z0p (z1H (z0i i8 (hr.mono (by decide)) rfl (z0a (z0g 3 (pv 3)) (z0a (z0g 1 (pv 1)) z0b)))))) (z7T (pt_din hr.units (z0g 3 (pv 3)) (z0g 2 (pv 2)))))) (z0j (z0x z4B)) z0U)
   (z0j (x4S hr.units (pv 2) (z0g 3 (pv 3)) z4B))))
   (z0j (z0x z4B)))))
theorem y8h:FnScope x3t y4p (z0e y0Q):=z0B
theorem y8u(B:FnB K mg "voices" y0Q y4p)(T:Txt mg):DefOk P w K mg base 1 "voices" (spN K z3v):=
 B.on fun F hm hb=>z2I (k:=0) (g:=y0D) F hm hb y8h rfl rfl fun cdv A outer s H E hr=>
  (z0j (z0x (x5y rfl rfl T.kq (z3R (z1e (N':=["votes", "ballot"])  rfl ⟨rfl,rfl,rfl,rfl,rfl⟩ (n:=1) rfl (z0D (z0g 0 (pv 0))) (fun _ _ _ _ _=>z0l (i:=1) nd14 rfl (Or.inl rfl)) (fun _ _ _ _ _=>z0A) (fun _ _ _ _ _=>(z0C (z0g 1 (pv 1)) z0f)))))))
theorem jS:FnScope kx y3K (z0e y2X):=z0B
theorem x3u(B:FnB K mg "asked" y2X y3K)(T:Txt mg)(Z:Cls K mg base cl)(gx:DefOk P w K mg base 2 "tells_each_once" (spN K z0T))(gC:DefOk P w K mg base 1 "voices" (spN K z3v)):DefX P w K mg base 3 "asked" (spX K cl z9H):=by
 obtain⟨C_BadBallot,hc_BadBallot,gA,jl,ge⟩:=Z.jt
 obtain⟨gq,jr,kn,j0,ia⟩:=Z.kl
 exact B.on fun F hm hb=>⟨_,_,y3K,hm,F.kp,hb,fnX (k:=2) (g:=y0K) F jS rfl rfl fun cdv A outer s H E hr=>
  (z0h (z4C PassesOwn.leaving rfl (z0D (z0g 0 (pv 0))) (z0l (i:=2) jS.nd rfl (Or.inl rfl)) (z0j (z5Q (z2k (z0p (z1H (z0i gx (hr.mono (by decide)) rfl (z0a (z0C (z0g 2 (pv 2)) z0f) (z0a (z0g 1 (pv 1)) z0b)))))) (z0j (y0F (c:=1) rfl rfl gA (y0M hc_BadBallot) z3S)) z0U)))
   (z0j (z5Q (z6K hr.units (z1v (z1H (z0i gC (hr.mono (by decide)) rfl (z0a (z0g 0 (pv 0)) z0b))) z0f) z0f) (z0j (y0F (c:=2) rfl rfl kn (y0M jr) z3S)) z0U)))⟩
theorem y0B:FnScope y1E z6A (z0e z4f):=z0B
theorem y0c(B:FnB K mg "puts_ahead" z4f z6A)(T:Txt mg):DefOk P w K mg base 1 "puts_ahead" (spN K z1i):=
 B.on fun F hm hb=>z2I (k:=0) (g:=z4n) F hm hb y0B rfl rfl fun cdv A outer s H E hr=>
  (z0j (z0x (pd_lt (z7y (z0g 0 (pv 0)) (z0g 1 (pv 1))) (z7y (z0g 0 (pv 0)) (z0g 2 (pv 2))))))
theorem jK:FnScope kH x4j (z0e x0l):=z0B
theorem kC(B:FnB K mg "lead" x0l x4j)(T:Txt mg)(gC:DefOk P w K mg base 1 "voices" (spN K z3v))(gK:DefOk P w K mg base 1 "puts_ahead" (spN K z1i)):DefOk P w K mg base 2 "lead" (spN K y0Z):=
 B.on fun F hm hb=>z2I (k:=1) (g:=x1u) F hm hb jK rfl rfl fun cdv A outer s H E hr=>
  (z0h (z1h (PAsg.imp (y4J (i:=3) (N':=["votes", "one", "other", "ahead", "behind", "ballot"]) jK.nd rfl rfl rfl ⟨rfl,rfl,rfl,rfl,rfl⟩ (n:=5) rfl (z0D (z0g 0 (pv 0))) (fun _ _ _ _ _=>z0l (i:=5) nd15 rfl (Or.inl rfl)) (fun _ _ _ _ _=>z0P (z0p (z1H (z0i gK (hr.mono (by decide)) rfl (z0a (z0C (z0g 5 (pv 5)) z0f) (z0a (z0g 1 (pv 1)) (z0a (z0g 2 (pv 2)) z0b))))))) (fun _ _ _ _ _=>(z0g 5 (pv 5)))) iNF))
   (z0h (z1h (PAsg.imp (y4J (i:=4) (N':=["votes", "one", "other", "ahead", "behind", "ballot"]) jK.nd rfl rfl rfl ⟨rfl,rfl,rfl,rfl,rfl⟩ (n:=5) rfl (z0D (z0g 0 (pv 0))) (fun _ _ _ _ _=>z0l (i:=5) nd15 rfl (Or.inl rfl)) (fun _ _ _ _ _=>z0P (z0p (z1H (z0i gK (hr.mono (by decide)) rfl (z0a (z0C (z0g 5 (pv 5)) z0f) (z0a (z0g 2 (pv 2)) (z0a (z0g 1 (pv 1)) z0b))))))) (fun _ _ _ _ _=>(z0g 5 (pv 5)))) iNF))
   (z0j (z0x (z4K (z1H (z0i gC (hr.mono (by decide)) rfl (z0a (z0g 3 (pv 3)) z0b))) (z1H (z0i gC (hr.mono (by decide)) rfl (z0a (z0g 4 (pv 4)) z0b))))))))
theorem iI:FnScope z8G z3f (z0e z3i):=z0B
theorem z7Q(B:FnB K mg "raised_order" z3i z3f)(T:Txt mg)(Z:Cls K mg base cl):DefX P w K mg base 1 "raised_order" (spX K cl z1b):=by
 obtain⟨C_NothingLeft,hc_NothingLeft,gi,i4,xb_NothingLeft⟩:=Z.ji
 exact B.on fun F hm hb=>⟨_,_,z3f,hm,F.kp,hb,fnX (k:=0) (g:=z2b) F iI rfl rfl fun cdv A outer s H E hr=>
  (z0h (z1n (z0F (i:=2) iI.nd rfl (Or.inl rfl) (z7y (z0g 0 (pv 0)) (z0g 1 (pv 1)))))
   (z0h (z5Q (z6K hr.units (z0g 2 (pv 2)) z0f) (z0j (y0F (c:=3) rfl rfl gi (y0M hc_NothingLeft) z3S)) z0U)
   (z0j (z0x (y9c (y9c (y1m (z0g 0 (pv 0)) z2s (z1L (z4K (z0g 2 (pv 2)) z0f))) (z3o (z0a (z0g 1 (pv 1)) (z0a (z0C (z0g 0 (pv 0)) (z4K (z0g 2 (pv 2)) z0f)) z0b)))) (y1m (z0g 0 (pv 0)) (z1L (z2q (z0g 2 (pv 2)) z0f)) z2s))))))⟩
theorem y9f:FnScope x2w y4m (z0e z9G):=z0B
theorem x0N(B:FnB K mg "row_of" z9G y4m)(T:Txt mg)(jT:DefOk P w K mg base 2 "lead" (spN K y0Z)):DefOk P w K mg base 3 "row_of" (spN K z6Q):=
 B.on fun F hm hb=>z2I (k:=2) (g:=z9A) F hm hb y9f rfl rfl fun cdv A outer s H E hr=>
  (z0j (z1R (z5A (z1e (N':=["votes", "many", "one", "other"])  rfl ⟨rfl,rfl,rfl,rfl,rfl⟩ (n:=3) rfl (z1c rfl T.fS (z0g 1 (pv 1))) (fun _ _ _ _ _=>z0l (i:=3) nd16 rfl (Or.inl rfl)) (fun _ _ _ _ _=>z0A) (fun _ _ _ _ _=>(z7l (pd_ne hr.units (z0g 2 (pv 2)) (z0g 3 (pv 3))) (y2x (pd_gt (z1H (z0i jT (hr.mono (by decide)) rfl (z0a (z0g 0 (pv 0)) (z0a (z0g 2 (pv 2)) (z0a (z0g 3 (pv 3)) z0b))))) z0f))))))))
theorem y3M:FnScope y5V z6o (z0e z6a):=z0B
theorem y3t(B:FnB K mg "table_of" z6a z6o)(T:Txt mg)(Z:Cls K mg base cl)(jL:DefX P w K mg base 3 "asked" (spX K cl z9H))(jy:DefOk P w K mg base 3 "row_of" (spN K z6Q)):DefX P w K mg base 4 "table_of" (spX K cl z4x):=by
 exact B.on fun F hm hb=>⟨_,_,z6o,hm,F.kp,hb,fnX (k:=3) (g:=z5W) F y3M rfl rfl fun cdv A outer s H E hr=>
  (z0h (s_exprX (z9n jL (hr.mono (by decide)) rfl x5u (z0a (z0g 0 (pv 0)) (z0a (z0g 1 (pv 1)) z0b))))
   (z0j (z1R (z5P (N':=["votes", "many", "one"])  rfl ⟨rfl,rfl,rfl,rfl,rfl⟩ (n:=2) rfl (z1c rfl T.fS (z0g 1 (pv 1))) (fun _ _ _ _ _=>z0l (i:=2) nd17 rfl (Or.inl rfl)) (fun _ _ _ _ _=>z0A) (fun _ _ _ _ _=>(z0i jy (hr.mono (by decide)) rfl (z0a (z0g 0 (pv 0)) (z0a (z0g 1 (pv 1)) (z0a (z0g 2 (pv 2)) z0b)))))))))⟩
theorem kD:FnScope kJ x5h (z0e y7w):=z0B
theorem kE(B:FnB K mg "sign" y7w x5h)(T:Txt mg):DefOk P w K mg base 1 "sign" (spN K y2G):=
 B.on fun F hm hb=>z2I (k:=0) (g:=y5c) F hm hb kD rfl rfl fun cdv A outer s H E hr=>
  (z0j (z0x (pd_if (z0p (z0C (z0C (z0g 0 (pv 0)) z0f) (z0g 1 (pv 1)))) z0f (z8Q z0f))))
theorem z8x:FnScope y0h z5C (z0e z3D):=z0B
theorem z8B(B:FnB K mg "turned_sign" z3D z5C)(T:Txt mg):DefOk P w K mg base 1 "turned_sign" (spN K z0N):=
 B.on fun F hm hb=>z2I (k:=0) (g:=z2x) F hm hb z8x rfl rfl fun cdv A outer s H E hr=>
  (z0j (z0x (pd_if (z6K hr.units (z1v (z0g 0 (pv 0)) z0f) z0f) z0f (z8Q z0f))))
theorem y6j:FnScope x1D y2z (z0e z8d):=z0B
theorem y6w(B:FnB K mg "without" z8d y2z)(T:Txt mg)(i5:DefOk P w K mg base 2 "part" (spN K z8S)):DefOk P w K mg base 3 "without" (spN K z1w):=
 B.on fun F hm hb=>z2I (k:=2) (g:=z7k) F hm hb y6j rfl rfl fun cdv A outer s H E hr=>
  (z0j (z1R (z0i i5 (hr.mono (by decide)) rfl (z0a (z0g 0 (pv 0)) (z0a (z3R (z1e (N':=["table", "things", "thing"])  rfl ⟨rfl,rfl,rfl,rfl,rfl⟩ (n:=2) rfl (z1c rfl T.fS (z0L rfl T.fU (z0g 0 (pv 0)))) (fun _ _ _ _ _=>z0l (i:=2) nd18 rfl (Or.inl rfl)) (fun _ _ _ _ _=>z0P (x4p hr.units (z0g 2 (pv 2)) (z0g 1 (pv 1)))) (fun _ _ _ _ _=>(z0g 2 (pv 2))))) z0b)))))
theorem gf:FnScope y0t z3B (z0e z2u):=z0B
theorem z4i(B:FnB K mg "pairing_sum" z2u z3B)(T:Txt mg)(i6:DefOk P w K mg base 1 "sign" (spN K y2G))(G_turned_sign:DefOk P w K mg base 1 "turned_sign" (spN K z0N))(G_without:DefOk P w K mg base 3 "without" (spN K z1w)):∀n:Nat,DefOk P w K mg base (4+n) "pairing_sum" (spN K (z1z n))
 |0=>B.on fun F hm hb=>z2I (k:=3) (g:=fun _=>none) F hm hb gf rfl rfl fun cdv A outer s H E hr=>y5p
 |n+1=>by
  have G_pairing_sum:=z4i B T i6 G_turned_sign G_without n
  exact B.on fun F hm hb=>z2I (k:=4+n) (g:=z2r (z1z n)) F hm hb gf rfl rfl fun cdv A outer s H E hr=>
  (z0h (z5Q (z6K hr.units (z0L rfl T.fU (z0g 0 (pv 0))) z0f) (z0j (z0x z0f)) z0U)
   (z0h (z1n (z0F (i:=1) gf.nd rfl (Or.inl rfl) z0f))
   (z0h (z4C PassesOwn.never rfl (pi_rng2 rfl T.fS z0f (z0L rfl T.fU (z0g 0 (pv 0)))) (z0l (i:=2) gf.nd rfl (Or.inl rfl)) (z0j (z1n (z0F (i:=1) gf.nd rfl (Or.inl rfl) (z2q (z0g 1 (pv 1)) (y2R (y2R (z1H (z0i G_turned_sign (hr.mono (by omega)) rfl (z0a (z4K (z0g 2 (pv 2)) z0f) z0b))) (z1H (z0i i6 (hr.mono (by omega)) rfl (z0a (z0g 0 (pv 0)) (z0a (z0g 2 (pv 2)) z0b))))) (z1H (z0i G_pairing_sum (hr.mono (by omega)) rfl (z0a (z1H (z0i G_without (hr.mono (by omega)) rfl (z0a (z0g 0 (pv 0)) (z0a (z3R (z0W (z0a z0f (z0a (z0g 2 (pv 2)) z0b)) (bZ rfl))) z0b)))) z0b)))))))))
   (z0j (z0x (z0g 1 (pv 1)))))))
theorem z8w(B:FnB K mg "pairing_sum" z2u z3B)(T:Txt mg)(i6:DefOk P w K mg base 1 "sign" (spN K y2G))(G_turned_sign:DefOk P w K mg base 1 "turned_sign" (spN K z0N))(G_without:DefOk P w K mg base 3 "without" (spN K z1w)):DefOk P w K mg base 16 "pairing_sum" (spN K z1I):=z4i B T i6 G_turned_sign G_without 12
theorem y7m:FnScope x3W y5J (z0e y0o):=z0B
theorem y9F(B:FnB K mg "kernel" y0o y5J)(T:Txt mg)(G_turned_sign:DefOk P w K mg base 1 "turned_sign" (spN K z0N))(G_without:DefOk P w K mg base 3 "without" (spN K z1w))(G_pairing_sum:DefOk P w K mg base 16 "pairing_sum" (spN K z1I)):DefOk P w K mg base 17 "kernel" (spN K z6S):=
 B.on fun F hm hb=>z2I (k:=16) (g:=z9z) F hm hb y7m rfl rfl fun cdv A outer s H E hr=>
  (z0j (z1R (z5A (z1e (N':=["table", "thing"])  rfl ⟨rfl,rfl,rfl,rfl,rfl⟩ (n:=1) rfl (z1c rfl T.fS (z0L rfl T.fU (z0g 0 (pv 0)))) (fun _ _ _ _ _=>z0l (i:=1) nd10 rfl (Or.inl rfl)) (fun _ _ _ _ _=>z0A) (fun _ _ _ _ _=>(y2R (z1H (z0i G_turned_sign (hr.mono (by decide)) rfl (z0a (z0g 1 (pv 1)) z0b))) (z1H (z0i G_pairing_sum (hr.mono (by decide)) rfl (z0a (z1H (z0i G_without (hr.mono (by decide)) rfl (z0a (z0g 0 (pv 0)) (z0a (z3R (z0W (z0a (z0g 1 (pv 1)) z0b))) z0b)))) z0b)))))))))
theorem y2t:FnScope y2O z7m (z0e z5b):=z0B
theorem y2s(B:FnB K mg "weight_of" z5b z7m)(T:Txt mg):DefOk P w K mg base 1 "weight_of" (spN K z2D):=
 B.on fun F hm hb=>z2I (k:=0) (g:=z4T) F hm hb y2t rfl rfl fun cdv A outer s H E hr=>
  (z0j (z0x (x5y rfl rfl T.kq (z3R (z1e (N':=["weights", "things", "thing"])  rfl ⟨rfl,rfl,rfl,rfl,rfl⟩ (n:=2) rfl (z0D (z0g 1 (pv 1))) (fun _ _ _ _ _=>z0l (i:=2) nd19 rfl (Or.inl rfl)) (fun _ _ _ _ _=>z0A) (fun _ _ _ _ _=>(z0C (z0g 0 (pv 0)) (z0g 2 (pv 2)))))))))
theorem x1Y:FnScope kz x0u (z0e y3h):=z0B
theorem x1Z(B:FnB K mg "score" y3h x0u)(T:Txt mg)(G_beaten_by:DefOk P w K mg base 2 "beaten_by" (spN K z0I))(ij:DefOk P w K mg base 2 "beaters_of" (spN K z2M))(gW:DefOk P w K mg base 1 "weight_of" (spN K z2D)):DefOk P w K mg base 3 "score" (spN K z7U):=
 B.on fun F hm hb=>z2I (k:=2) (g:=y2P) F hm hb x1Y rfl rfl fun cdv A outer s H E hr=>
  (z0j (z0x (z4K (z1H (z0i gW (hr.mono (by decide)) rfl (z0a (z0g 1 (pv 1)) (z0a (z1H (z0i G_beaten_by (hr.mono (by decide)) rfl (z0a (z0g 0 (pv 0)) (z0a (z0g 2 (pv 2)) z0b)))) z0b)))) (z1H (z0i gW (hr.mono (by decide)) rfl (z0a (z0g 1 (pv 1)) (z0a (z1H (z0i ij (hr.mono (by decide)) rfl (z0a (z0g 0 (pv 0)) (z0a (z0g 2 (pv 2)) z0b)))) z0b)))))))
theorem z9m:FnScope y2v z6x (z0e z4g):=z0B
theorem z9q(B:FnB K mg "is_even_at" z4g z6x)(T:Txt mg)(js:DefOk P w K mg base 3 "score" (spN K z7U)):DefOk P w K mg base 4 "is_even_at" (spN K z2f):=
 B.on fun F hm hb=>z2I (k:=3) (g:=z2R) F hm hb z9m rfl rfl fun cdv A outer s H E hr=>
  (z0h (z5Q (y3Z (z0C (z0g 1 (pv 1)) (z0g 2 (pv 2))) z0f) (z0j (z0x (x3z hr.units (z1H (z0i js (hr.mono (by decide)) rfl (z0a (z0g 0 (pv 0)) (z0a (z0g 1 (pv 1)) (z0a (z0g 2 (pv 2)) z0b))))) z0f))) z0U)
   (z0j (z0x (pd_lt (z1H (z0i js (hr.mono (by decide)) rfl (z0a (z0g 0 (pv 0)) (z0a (z0g 1 (pv 1)) (z0a (z0g 2 (pv 2)) z0b))))) z0f))))
theorem y6B:FnScope x0A y1i (z0e z8f):=z0B
theorem y6s(B:FnB K mg "is_even" z8f y1i)(T:Txt mg)(ik:DefOk P w K mg base 4 "is_even_at" (spN K z2f)):DefOk P w K mg base 5 "is_even" (spN K z5o):=
 B.on fun F hm hb=>z2I (k:=4) (g:=z7u) F hm hb y6B rfl rfl fun cdv A outer s H E hr=>
  (z0h (z5Q (PW.pt (z9f (pt_lt (pd_minL rfl rfl T.kS (z0g 1 (pv 1))) z0f) (z7T (z6K hr.units (pd_maxL rfl rfl T.kT (z0g 1 (pv 1))) z0f)))) (z0j (z0x z4B)) z0U)
   (z0j (z0x (y7t rfl rfl T.j3 (z1H (z5P (N':=["table", "weights", "thing"])  rfl ⟨rfl,rfl,rfl,rfl,rfl⟩ (n:=2) rfl (z1c rfl T.fS (z0L rfl T.fU (z0g 0 (pv 0)))) (fun _ _ _ _ _=>z0l (i:=2) nd20 rfl (Or.inl rfl)) (fun _ _ _ _ _=>z0A) (fun _ _ _ _ _=>(z0i ik (hr.mono (by decide)) rfl (z0a (z0g 0 (pv 0)) (z0a (z0g 1 (pv 1)) (z0a (z0g 2 (pv 2)) z0b)))))))))))
theorem gL:FnScope y2Y z7F (z0e z4M):=z0B
theorem y1v(B:FnB K mg "odd_picks" z4M z7F)(T:Txt mg):DefOk P w K mg base 1 "odd_picks" (spR K z3A):=
 B.on fun F hm hb=>defR (k:=0) (g:=z5c) F hm hb gL rfl rfl fun cdv A outer s H E B hr=>
  (z0h (z6v (z0F (i:=1) gL.nd rfl (Or.inl rfl) (z1H (y7Z (y5a (z5A (z0W z0b)) x0r)))))
   (z0h (z4C PassesOwn.never rfl (z0D (z0g 0 (pv 0))) (z0l (i:=2) gL.nd rfl (Or.inr rfl)) (z0j (z6v (z0F (i:=1) gL.nd rfl (Or.inl rfl) (z3R (z5x (z0g 1 (pv 1)) (z1H (z5P (N':=["things", "picks", "thing", "pick"])  rfl ⟨rfl,rfl,rfl,rfl,rfl⟩ (n:=3) rfl (z0D (z0g 1 (pv 1))) (fun _ _ _ _ _=>z0l (i:=3) nd21 rfl (Or.inl rfl)) (fun _ _ _ _ _=>z0A) (fun _ _ _ _ _=>(z5A (z5x (z0g 3 (pv 3)) (z3R (z0W (z0a (z0g 2 (pv 2)) z0b))))))))))))))
   (z0j (y9a (z3R (z1e (N':=["things", "picks", "thing", "pick"])  rfl ⟨rfl,rfl,rfl,rfl,rfl⟩ (n:=3) rfl (z0D (z0g 1 (pv 1))) (fun _ _ _ _ _=>z0l (i:=3) nd21 rfl (Or.inl rfl)) (fun _ _ _ _ _=>z0P (z6K hr.units (z1v (z0L rfl T.fU (z0g 3 (pv 3))) z0f) z0f)) (fun _ _ _ _ _=>(z0g 3 (pv 3)))))))))
theorem f9:FnScope z6N z3O (z0e z2l):=z0B
theorem z5N(B:FnB K mg "divisor_of_two" z2l z3O)(T:Txt mg):DefOk P w K mg base 1 "divisor_of_two" (spN K z1B):=
 B.on fun F hm hb=>z2I (k:=0) (g:=z2p) F hm hb f9 rfl rfl fun cdv A outer s H E hr=>
  (z0h (y3v 100 PassesOwn.never (y3Z (z0g 1 (pv 1)) z0f) (z0h (z1n (z0F (i:=2) f9.nd rfl (Or.inl rfl) (z1v (z0g 0 (pv 0)) (z0g 1 (pv 1)))))
   (z0h (z1n (z0F (i:=0) f9.nd rfl (Or.inl rfl) (z0g 1 (pv 1))))
   (z0j (z1n (z0F (i:=1) f9.nd rfl (Or.inl rfl) (z0g 2 (pv 2))))))))
   (z0j (z0x (z0g 0 (pv 0)))))
theorem gd:FnScope z6P z3M (z0e z2m):=z0B
theorem z5R(B:FnB K mg "common_divisor" z2m z3M)(T:Txt mg)(gD:DefOk P w K mg base 1 "divisor_of_two" (spN K z1B)):DefOk P w K mg base 2 "common_divisor" (spN K z1A):=
 B.on fun F hm hb=>z2I (k:=1) (g:=z2o) F hm hb gd rfl rfl fun cdv A outer s H E hr=>
  (z0h (z1n (z0F (i:=1) gd.nd rfl (Or.inl rfl) z0f))
   (z0h (z4C PassesOwn.never rfl (z0D (z0g 0 (pv 0))) (z0l (i:=2) gd.nd rfl (Or.inl rfl)) (z0j (z1n (z0F (i:=1) gd.nd rfl (Or.inl rfl) (z1H (z0i gD (hr.mono (by decide)) rfl (z0a (z0g 1 (pv 1)) (z0a (pd_abs rfl T.kU (z0g 2 (pv 2))) z0b))))))))
   (z0j (z0x (z0g 1 (pv 1))))))
theorem fY:FnScope y1o z6H (z0e z4q):=z0B
theorem z9I(B:FnB K mg "weights_on" z4q z6H)(T:Txt mg)(i5:DefOk P w K mg base 2 "part" (spN K z8S))(jz:DefOk P w K mg base 17 "kernel" (spN K z6S))(gE:DefOk P w K mg base 2 "common_divisor" (spN K z1A)):DefOk P w K mg base 18 "weights_on" (spN K z2Q):=
 B.on fun F hm hb=>z2I (k:=17) (g:=z4k) F hm hb fY rfl rfl fun cdv A outer s H E hr=>
  (z0h (z6v (z0F (i:=2) fY.nd rfl (Or.inl rfl) (z1H (z0i jz (hr.mono (by decide)) rfl (z0a (z1H (z0i i5 (hr.mono (by decide)) rfl (z0a (z0g 0 (pv 0)) (z0a (z0g 1 (pv 1)) z0b)))) z0b)))))
   (z0h (z1n (z0F (i:=3) fY.nd rfl (Or.inl rfl) (z1H (z0i gE (hr.mono (by decide)) rfl (z0a (z0g 2 (pv 2)) z0b)))))
   (z0h (z5Q (pt_lt (z0C (z0g 2 (pv 2)) z0f) z0f) (z0j (z1n (z0F (i:=3) fY.nd rfl (Or.inl rfl) (z8Q (z0g 3 (pv 3)))))) z0U)
   (z0h (z1h (z0F (i:=4) fY.nd rfl (Or.inl rfl) (z5A (pf_rep (z3R (z0W (z0a z0f z0b))) (z0L rfl T.fU (z0g 0 (pv 0)))))))
   (z0h (s_for2 PassesOwn.never rfl (pi_zipD rfl T.kX (z0g 1 (pv 1)) (z0g 2 (pv 2))) (pg_pair rfl (z0l (i:=5) fY.nd rfl (Or.inl rfl)) (z0l (i:=6) fY.nd rfl (Or.inl rfl))) (z0j (s_st0 (pv 4) (z0g 5 (pv 5)) (pd_divN (z0g 6 (pv 6)) (z0g 3 (pv 3))))))
   (z0j (z7z (pv 4))))))))
theorem iM:FnScope y6N z9a (z0e z5U):=z0B
theorem y3j(B:FnB K mg "weighing" z5U z9a)(T:Txt mg)(G_uncovered:DefOk P w K mg base 5 "uncovered" (spN K z0X))(jm:DefOk P w K mg base 5 "is_even" (spN K z5o))(iO:DefOk P w K mg base 1 "odd_picks" (spR K z3A))(il:DefOk P w K mg base 18 "weights_on" (spN K z2Q)):DefOk P w K mg base 19 "weighing" (spN K z1W):=
 B.on fun F hm hb=>z2I (k:=18) (g:=z5T) F hm hb iM rfl rfl fun cdv A outer s H E hr=>
  (z0j (z4C PassesOwn.never rfl (z0D (y4o iO (hr.mono (by decide)) rfl (z0a (z1H (z0i G_uncovered (hr.mono (by decide)) rfl (z0a (z0g 0 (pv 0)) z0b))) z0b))) (z0l (i:=1) iM.nd rfl (Or.inl rfl)) (z0h (z1h (z0F (i:=2) iM.nd rfl (Or.inl rfl) (z0i il (hr.mono (by decide)) rfl (z0a (z0g 0 (pv 0)) (z0a (z0g 1 (pv 1)) z0b)))))
   (z0j (z5Q (z0p (z1H (z0i jm (hr.mono (by decide)) rfl (z0a (z0g 0 (pv 0)) (z0a (z0g 2 (pv 2)) z0b))))) (z0j (z7z (pv 2))) z0U)))))
theorem z8r:FnScope y0s z5G (z0e z3I):=z0B
theorem z8y(B:FnB K mg "standing_of" z3I z5G)(T:Txt mg)(G_uncovered:DefOk P w K mg base 5 "uncovered" (spN K z0X))(gQ:DefOk P w K mg base 15 "crowns" (spN K z3y))(gu:DefOk P w K mg base 6 "top_ring" (spN K z1U))(gv:DefOk P w K mg base 19 "weighing" (spN K z1W)):DefOk P w K mg base 20 "standing_of" (spN K z2w):=
 B.on fun F hm hb=>z2I (k:=19) (g:=z3t) F hm hb z8r rfl rfl fun cdv A outer s H E hr=>
  (z0j (z0x (z3o (z0a (y6h hr.units (z0g 1 (pv 1)) (z1H (z0i gu (hr.mono (by decide)) rfl (z0a (z0g 0 (pv 0)) z0b)))) (z0a (y6h hr.units (z0g 1 (pv 1)) (z1H (z0i G_uncovered (hr.mono (by decide)) rfl (z0a (z0g 0 (pv 0)) z0b)))) (z0a (y6h hr.units (z0g 1 (pv 1)) (z1H (z0i gQ (hr.mono (by decide)) rfl (z0a (z0g 0 (pv 0)) z0b)))) (z0a (pd_gt (z0C (z1H (z0i gv (hr.mono (by decide)) rfl (z0a (z0g 0 (pv 0)) z0b))) (z0g 1 (pv 1))) z0f) z0b)))))))
theorem iJ:FnScope z8A z3h (z0e z3a):=z0B
theorem z7t(B:FnB K mg "raised_votes" z3a z3h)(T:Txt mg)(Z:Cls K mg base cl)(gw:DefX P w K mg base 1 "raised_order" (spX K cl z1b)):DefX P w K mg base 2 "raised_votes" (spX K cl z1x):=by
 exact B.on fun F hm hb=>⟨_,_,z3h,hm,F.kp,hb,fnX (k:=1) (g:=z1Y) F iJ rfl rfl fun cdv A outer s H E hr=>
  (z0h (z1n (z0F (i:=3) iJ.nd rfl (Or.inl rfl) (z0C (z0g 0 (pv 0)) (z0g 1 (pv 1)))))
   (z0j (s_or (z1R (z5A (z5x (z3R (z5x (z3R (z2L (z0g 0 (pv 0)) z2s (z1L (z0g 1 (pv 1))))) (z3R (z0W (z0a (z3o (z0a (z0C (z0g 3 (pv 3)) z0f) (z0a (z1H (y4d gw (hr.mono (by decide)) rfl (z0a (z0C (z0g 3 (pv 3)) z0f) (z0a (z0g 2 (pv 2)) z0b)))) z0b))) z0b))))) (z3R (z2L (z0g 0 (pv 0)) (z1L (z2q (z0g 1 (pv 1)) z0f)) z2s))))) (s_retCE (pe_exL (pe_exR (z3R (z2L (z0g 0 (pv 0)) z2s (z1L (z0g 1 (pv 1))))) (pe_exLs (pe_exT (z0C (z0g 3 (pv 3)) z0f) (pe_exX (px_nX (z9n gw (hr.mono (by decide)) rfl x5u (z0a (z0C (z0g 3 (pv 3)) z0f) (z0a (z0g 2 (pv 2)) z0b)))))))) (z3R (z2L (z0g 0 (pv 0)) (z1L (z2q (z0g 1 (pv 1)) z0f)) z2s)))))))⟩
theorem gB:FnScope y1H z6C (z0e z4d):=z0B
theorem z9k(B:FnB K mg "_law_order" z4d z6C)(T:Txt mg):DefOk P w K mg base 1 "_law_order" (spN K z2O):=
 B.on fun F hm hb=>z2I (k:=0) (g:=z4c) F hm hb gB rfl rfl fun cdv A outer s H E hr=>
  (z0h (z1h (z0F (i:=2) gB.nd rfl (Or.inl rfl) (z5A (x0V rfl rfl T.jj rfl T.fS (z0g 1 (pv 1))))))
   (z0h (z1h (z0F (i:=3) gB.nd rfl (Or.inl rfl) (z5A (z0W z0b))))
   (z0h (y3v 100 PassesOwn.never (y3Z (z0L rfl T.fU (z0g 2 (pv 2))) z0f) (z0h (y7B (by decide) (pv 3) (pv 2) (z1v (z0g 0 (pv 0)) (z0L rfl T.fU (z0g 2 (pv 2)))))
   (z0j (z1n (z0F (i:=0) gB.nd rfl (Or.inl rfl) (z4p (z0g 0 (pv 0)) (z2q (z0L rfl T.fU (z0g 2 (pv 2))) z0f)))))))
   (z0j (z0x (z7d rfl T.gI (z0g 3 (pv 3))))))))
theorem f6:FnScope y1V z6I (z0e z3T):=z0B
theorem y0H(B:FnB K mg "_law_votes" z3T z6I)(T:Txt mg)(io:DefOk P w K mg base 1 "_law_order" (spN K z2O)):DefOk P w K mg base 2 "_law_votes" (spN K z2U):=
 B.on fun F hm hb=>z2I (k:=1) (g:=z4j) F hm hb f6 rfl rfl fun cdv A outer s H E hr=>
  (z0h (z1h (z0F (i:=2) f6.nd rfl (Or.inl rfl) (z5A (z0W z0b))))
   (z0h (z1n (z0F (i:=3) f6.nd rfl (Or.inl rfl) z0f))
   (z0h (z4C PassesOwn.never rfl (z0D (z3R (z2L (z0g 0 (pv 0)) (z1L z0f) (z1L z0f)))) (z0l (i:=4) f6.nd rfl (Or.inl rfl)) (z0h (z1n (z0F (i:=5) f6.nd rfl (Or.inl rfl) (z1v (z0g 4 (pv 4)) (y9r z0f z0f))))
   (z0h (s_m0 PySem.F.slot_list_append PySem.F.type_list_append z1y z2g (pv 2) (z0a (z3o (z0a (z2q z0f (z1v (z4p (z0g 5 (pv 5)) z0f) (z0C (z3R (z0W (z0a z0f (z0a (y9r z0f z0f) z0b)))) (z1v (z0g 5 (pv 5)) z0f)))) (z0a (z1H (z0i io (hr.mono (by decide)) rfl (z0a (z4p (z0g 5 (pv 5)) z0f) (z0a (z0g 1 (pv 1)) z0b)))) z0b))) z0b))
   (z0j (z1n (z0F (i:=3) f6.nd rfl (Or.inl rfl) (z2q (z0g 3 (pv 3)) (z0C (z0C (z0g 2 (pv 2)) (z8Q z0f)) z0f))))))))
   (z0h (z5Q (z6K hr.units (z1v (z0g 3 (pv 3)) z0f) z0f) (z0j (s_m0 PySem.F.slot_list_append PySem.F.type_list_append z1y z2g (pv 2) (z0a (z3o (z0a z0f (z0a (y4E rfl rfl T.gI rfl T.fS (z0g 1 (pv 1))) z0b))) z0b))) z0U)
   (z0j (z7z (pv 2)))))))
theorem fW:FnScope y2q z6E (z0e z3X):=z0B
theorem z9D(B:FnB K mg "_law_seven" z3X z6E)(T:Txt mg):DefOk P w K mg base 1 "_law_seven" (spN K z2S):=
 B.on fun F hm hb=>defNb (k:=0) (g:=z4e) F hm hb fW rfl rfl fun cdv A outer s H E hr=>
  (x3k (x3H (i:=1) fW.nd rfl (Or.inl rfl) rfl rfl (Or.inl rfl))
   (z0h (z1n (z0F (i:=0) fW.nd rfl (Or.inr rfl) (z1v (z0g 0 (pv 0)) (y9r z0f z0f))))
   (z0h (s_m1 PySem.F.slot_list_append PySem.F.type_list_append z1y z2g (pv 1) (z2q z0f (z1v (z0g 0 (pv 0)) z0f)) (z0a (z4K z0f (z1v (z0g 0 (pv 0)) z0f)) z0b))
   (z0h (s_m1 PySem.F.slot_list_append PySem.F.type_list_append z1y z2g (pv 1) (z2q z0f (y5v z0f (z1v (z4p (z0g 0 (pv 0)) z0f) z0f))) (z0a (z4K z0f (y5v z0f (z1v (z4p (z0g 0 (pv 0)) z0f) z0f))) z0b))
   (z0h (s_m1 PySem.F.slot_list_append PySem.F.type_list_append z1y z2g (pv 1) (z2q z0f (z1v (z4p (z0g 0 (pv 0)) z0f) z0f)) (z0a (z4K z0f (z1v (z4p (z0g 0 (pv 0)) z0f) z0f)) z0b))
   (z0h (z1n (z0F (i:=2) fW.nd rfl (Or.inr rfl) (z2q z0f (z1v (z4p (z0g 0 (pv 0)) z0f) z0f))))
   (z0h (z1h (PAsg.imp (y4J (i:=3) (N':=["cell", "beats", "step", "places", "table", "one", "other", "k"]) fW.nd rfl rfl rfl ⟨rfl,rfl,rfl,rfl,rfl⟩ (n:=7) rfl (z1c rfl T.fS z0f) (fun _ _ _ _ _=>z0l (i:=7) nd24 rfl (Or.inl rfl)) (fun _ _ _ _ _=>z0A) (fun _ _ _ _ _=>(z1v (z2q (z4p (z0g 0 (pv 0)) z0f) (y5v (z0g 2 (pv 2)) (z0g 7 (pv 7)))) z0f))) iNF))
   (z0h (z1h (pas_cN (i:=4) (N':=["cell", "beats", "step", "places", "table", "5", "other", "one"]) fW.nd rfl rfl rfl ⟨rfl,rfl,rfl,rfl,rfl⟩ (n:=7) rfl (z1c rfl T.fS z0f) (fun _ _ _ _ _=>z0l (i:=7) nd22 rfl (Or.inl rfl)) (fun _ _ _ _ _=>z0A) (fun _ _ _ _ _=>(z5A (z1e (N':=["cell", "beats", "step", "places", "table", "5", "6", "one", "other"])  rfl ⟨rfl,rfl,rfl,rfl,rfl⟩ (n:=8) rfl (z1c rfl T.fS z0f) (fun _ _ _ _ _=>z0l (i:=8) nd23 rfl (Or.inl rfl)) (fun _ _ _ _ _=>z0A) (fun _ _ _ _ _=>z4B))))))
   (z0h (s_frz 1 (z4C PassesOwn.never rfl (z1c rfl T.fS z0f) (z0l (i:=5) fW.nd rfl (Or.inl rfl)) (z0j (z4C PassesOwn.never rfl (z0D (z0C (z0g 1 (pv 1)) (z0g 5 (pv 5)))) (z0l (i:=6) fW.nd rfl (Or.inl rfl)) (z0j (s_st1 (pv 4) (z0C (z0g 3 (pv 3)) (z0g 5 (pv 5))) (z0C (z0g 3 (pv 3)) (z0g 6 (pv 6))) z4B))))))
   (z0j (z7z (pv 4))))))))))))
theorem fZ:FnScope z7P z4h (z0e z2B):=z0B
theorem z6M(B:FnB K mg "_law_votes_of" z2B z4h)(T:Txt mg):DefOk P w K mg base 1 "_law_votes_of" (spN K z1O):=
 B.on fun F hm hb=>z2I (k:=0) (g:=z2H) F hm hb fZ rfl rfl fun cdv A outer s H E hr=>
  (z0h (z1h (z0F (i:=1) fZ.nd rfl (Or.inl rfl) (z5A (z0W (z0a (z3o (z0a z0f (z0a (y4E rfl rfl T.gI rfl T.fS (z0L rfl T.fU (z0g 0 (pv 0)))) z0b))) z0b)))))
   (z0h (z4C PassesOwn.never rfl (z1c rfl T.fS (z0L rfl T.fU (z0g 0 (pv 0)))) (z0l (i:=2) fZ.nd rfl (Or.inr rfl)) (z0j (z4C PassesOwn.never rfl (z1c rfl T.fS (z0L rfl T.fU (z0g 0 (pv 0)))) (z0l (i:=3) fZ.nd rfl (Or.inr rfl)) (z0j (z5Q (z0p (z0C (z0C (z0g 0 (pv 0)) (z0g 2 (pv 2))) (z0g 3 (pv 3)))) (z0h (z1h (PAsg.imp (y4J (i:=4) (N':=["table", "votes", "one", "other", "rest", "thing"]) fZ.nd rfl rfl rfl ⟨rfl,rfl,rfl,rfl,rfl⟩ (n:=5) rfl (z1c rfl T.fS (z0L rfl T.fU (z0g 0 (pv 0)))) (fun _ _ _ _ _=>z0l (i:=5) nd25 rfl (Or.inl rfl)) (fun _ _ _ _ _=>z0P (PW.pt (z3k (y8U hr.units (z0g 5 (pv 5)) (z0g 2 (pv 2))) (z3C (y8U hr.units (z0g 5 (pv 5)) (z0g 3 (pv 3))))))) (fun _ _ _ _ _=>(z0g 5 (pv 5)))) iNF))
   (z0h (s_m0 PySem.F.slot_list_append PySem.F.type_list_append z1y z2g (pv 1) (z0a (z3o (z0a z0f (z0a (z7d rfl T.gI (z3R (z5x (z3R (z0W (z0a (z0g 2 (pv 2)) (z0a (z0g 3 (pv 3)) z0b)))) (z0g 4 (pv 4))))) z0b))) z0b))
   (z0j (s_m0 PySem.F.slot_list_append PySem.F.type_list_append z1y z2g (pv 1) (z0a (z3o (z0a z0f (z0a (z7d rfl T.gI (z3R (z5x (z3R (pf_revL (z0g 4 (pv 4)) (z8Q z0f))) (z3R (z0W (z0a (z0g 2 (pv 2)) (z0a (z0g 3 (pv 3)) z0b))))))) z0b))) z0b))))) z0U)))))
   (z0j (z7z (pv 1)))))
theorem gM:FnScope y2S z7x (z0e z4V):=z0B
theorem y1M(B:FnB K mg "_law_told" z4V z7x)(T:Txt mg)(Z:Cls K mg base cl)(gR:DefX P w K mg base 2 "raised_votes" (spX K cl z1x)):DefOk P w K mg base 3 "_law_told" (spN K z3s):=by
 obtain⟨C_AskError,iP,i9,nn_AskError,gX⟩:=Z.j4
 obtain⟨C_BadBallot,hc_BadBallot,gA,jl,ge⟩:=Z.jt
 obtain⟨gq,jr,kn,j0,ia⟩:=Z.kl
 obtain⟨C_NothingLeft,hc_NothingLeft,gi,i4,xb_NothingLeft⟩:=Z.ji
 exact B.on fun F hm hb=>z2I (k:=2) (g:=z3E) F hm hb gM rfl rfl fun cdv A outer s H E hr=>
  (z0h (s_try (gh:=(fun c=>match c with | 0=>fun _=>none | 1=>(y7H 3 "BadBallot" (ifO (z3e (z0q (d1 (z6J ["NothingLeft"] ["Even", "BadBallot", "NothingLeft"]) (z0c 3))) (z3e (z0q (d1 (z6J ["Even", "BadBallot", "NothingLeft"] ["Even", "BadBallot", "NothingLeft"]) (z0c 3))) (z2W (z0q (d1 (z6J ["BadBallot"] ["Even", "BadBallot", "NothingLeft"]) (z0c 3)))))) (z2y (dC (.str "best"))) z1q)) | 2=>(y7H 3 "Even" (ifO (z3e (z0q (d1 (z6J ["NothingLeft"] ["Even", "BadBallot", "NothingLeft"]) (z0c 3))) (z3e (z0q (d1 (z6J ["Even", "BadBallot", "NothingLeft"] ["Even", "BadBallot", "NothingLeft"]) (z0c 3))) (z2W (z0q (d1 (z6J ["BadBallot"] ["Even", "BadBallot", "NothingLeft"]) (z0c 3)))))) (z2y (dC (.str "best"))) z1q)) | 3=>(y7H 3 "NothingLeft" (ifO (z3e (z0q (d1 (z6J ["NothingLeft"] ["Even", "BadBallot", "NothingLeft"]) (z0c 3))) (z3e (z0q (d1 (z6J ["Even", "BadBallot", "NothingLeft"] ["Even", "BadBallot", "NothingLeft"]) (z0c 3))) (z2W (z0q (d1 (z6J ["BadBallot"] ["Even", "BadBallot", "NothingLeft"]) (z0c 3)))))) (z2y (dC (.str "best"))) z1q)) | _+4=>fun _=>none)) rfl rfl (fun pn xe RX' hW=>(z0j (s_retX (z9n gR (hr.mono (by decide)) rfl hW (z0a (z0g 0 (pv 0)) (z0a (z0g 1 (pv 1)) (z0a (z0g 2 (pv 2)) z0b))))))) (fun c=>match c with | 0=>y4k (fun _=>rfl) | 1=>(by rw[hc_BadBallot];exact x1S (i:=3) jl ge rfl i9.bound (by have z:=Z.e_BadBallot_AskError _ iP;rw[hc_BadBallot]at z;exact z) gM.nd rfl rfl (fun _=>(z0j (z5Q (PW.pt (z3k (z0p (z6m rfl gi.bound (Z.gY _ hc_NothingLeft) rfl T.fR (z0g 3 (pv 3)))) (z3k (z0p (y3H (T := "ValueError") rfl T.ib (by kernel_rfl) Z.ic rfl T.fR (z0g 3 (pv 3)))) (z3C (z2k (z0p (z6m rfl gA.bound (Z.iL _ hc_BadBallot) rfl T.fR (z0g 3 (pv 3))))))))) (z0j (z0x z3S)) z0U)))) | 2=>(by rw[jr];exact x1S (i:=3) j0 ia rfl i9.bound (by have z:=Z.f7 _ iP;rw[jr]at z;exact z) gM.nd rfl rfl (fun _=>(z0j (z5Q (PW.pt (z3k (z0p (z6m rfl gi.bound (Z.gY _ hc_NothingLeft) rfl T.fR (z0g 3 (pv 3)))) (z3k (z0p (y3H (T := "ValueError") rfl T.ib (by kernel_rfl) Z.ic rfl T.fR (z0g 3 (pv 3)))) (z3C (z2k (z0p (z6m rfl gA.bound (Z.iL _ hc_BadBallot) rfl T.fR (z0g 3 (pv 3))))))))) (z0j (z0x z3S)) z0U)))) | 3=>(by rw[hc_NothingLeft];exact x1S (i:=3) i4 xb_NothingLeft rfl i9.bound (by have z:=Z.e_NothingLeft_AskError _ iP;rw[hc_NothingLeft]at z;exact z) gM.nd rfl rfl (fun _=>(z0j (z5Q (PW.pt (z3k (z0p (z6m rfl gi.bound (Z.gY _ hc_NothingLeft) rfl T.fR (z0g 3 (pv 3)))) (z3k (z0p (y3H (T := "ValueError") rfl T.ib (by kernel_rfl) Z.ic rfl T.fR (z0g 3 (pv 3)))) (z3C (z2k (z0p (z6m rfl gA.bound (Z.iL _ hc_BadBallot) rfl T.fR (z0g 3 (pv 3))))))))) (z0j (z0x z3S)) z0U)))) | _+4=>y4k (fun _=>rfl)))
   (z0j (z0x z3S)))
theorem fV:FnScope z4Z z2G (z0e z1D):=z0B
theorem z4D(B:FnB K mg "_law_raised_right" z1D z2G)(T:Txt mg)(Z:Cls K mg base cl)(iQ:DefOk P w K mg base 3 "_law_told" (spN K z3s)):DefOk P w K mg base 4 "_law_raised_right" (spN K z1a):=
 B.on fun F hm hb=>z2I (k:=3) (g:=z1C) F hm hb fV rfl rfl fun cdv A outer s H E hr=>
  (z0h (z1h (z0F (i:=3) fV.nd rfl (Or.inl rfl) (z5A (z8h rfl T.jj (z0g 0 (pv 0))))))
   (z0h (z1h (z0F (i:=4) fV.nd rfl (Or.inl rfl) (z0i iQ (hr.mono (by decide)) rfl (z0a (z0g 3 (pv 3)) (z0a (z0g 1 (pv 1)) (z0a (z0g 2 (pv 2)) z0b))))))
   (z0h (z1h (z0F (i:=5) fV.nd rfl (Or.inl rfl) (z5A (z8h rfl T.jj (z0C (z0C (z0g 0 (pv 0)) (z0g 1 (pv 1))) z0f)))))
   (z0h (z1n (z0F (i:=6) fV.nd rfl (Or.inl rfl) (x1L (z0g 5 (pv 5)) (z0g 2 (pv 2)))))
   (z0h (z5Q (y8U hr.units (z0g 3 (pv 3)) (z0g 0 (pv 0))) (z0j (z0x z4B)) z0U)
   (z0h (z5Q (z6K hr.units (z0g 6 (pv 6)) z0f) (z0j (z0x (x3z hr.units (z0g 4 (pv 4)) z3S))) z0U)
   (z0h (s_st0 (pv 5) (z0g 6 (pv 6)) (z0C (z0g 5 (pv 5)) (z4K (z0g 6 (pv 6)) z0f)))
   (z0h (s_st0 (pv 5) (z4K (z0g 6 (pv 6)) z0f) (z0g 2 (pv 2)))
   (z0h (z1h (z0F (i:=7) fV.nd rfl (Or.inl rfl) (z5A (z5x (z3R (z5x (z3R (z2L (z0g 0 (pv 0)) z2s (z1L (z0g 1 (pv 1))))) (z3R (z0W (z0a (z3o (z0a (z0C (z0C (z0g 0 (pv 0)) (z0g 1 (pv 1))) z0f) (z0a (z7d rfl T.gI (z0g 5 (pv 5))) z0b))) z0b))))) (z3R (z2L (z0g 0 (pv 0)) (z1L (z2q (z0g 1 (pv 1)) z0f)) z2s))))))
   (z0j (z0x (z7l (x1I rfl T.jj rfl T.fR (z0g 4 (pv 4))) (z7l (x3z hr.units (z0g 4 (pv 4)) (z0g 7 (pv 7))) (y2x (y4F rfl T.gI rfl T.fR (z0C (z0g 4 (pv 4)) (z0g 1 (pv 1))))))))))))))))))
theorem gj:FnScope kP j2 (z0e z9U):=z0B
theorem kK{f:Addr}{fd:fF}(F:Fun K "law" "law" z9U f fd)(T:Txt mg)(Z:Cls K mg base cl)(G_uncovered:DefOk P w K mg base 5 "uncovered" (spN K z0X))(gQ:DefOk P w K mg base 15 "crowns" (spN K z3y))(gu:DefOk P w K mg base 6 "top_ring" (spN K z1U))(ja:DefX P w K mg base 4 "table_of" (spX K cl z4x))(gv:DefOk P w K mg base 19 "weighing" (spN K z1W))(g5:DefOk P w K mg base 20 "standing_of" (spN K z2w))(iq:DefOk P w K mg base 2 "_law_votes" (spN K z2U))(ir:DefOk P w K mg base 1 "_law_seven" (spN K z2S))(gN:DefOk P w K mg base 1 "_law_votes_of" (spN K z1O))(G__law_raised_right:DefOk P w K mg base 4 "_law_raised_right" (spN K z1a)):FnOk P w K mg base CX0 21 f fd j2 (spN K y6G):=
 fnN (k:=20) (g:=g_law) F gj rfl rfl fun cdv A outer s H E hr=>
  (z0h (z1n (z0F (i:=1) gj.nd rfl (Or.inl rfl) z0f))
   (z0h (z5Q (y3Z (z0L rfl T.fU (z0g 0 (pv 0))) z0f) (z0j (z1n (z0F (i:=1) gj.nd rfl (Or.inl rfl) (z2q z0f (z1v (z0C (z0g 0 (pv 0)) z0f) z0f))))) z0U)
   (z0h (z6v (z0F (i:=2) gj.nd rfl (Or.inl rfl) (z1H (z0i iq (hr.mono (by decide)) rfl (z0a (z0g 0 (pv 0)) (z0a (z0g 1 (pv 1)) z0b))))))
   (z0h (z5Q (PW.pt (z3k (y3Z (z0L rfl T.fU (z0g 0 (pv 0))) z0f) (z3C (z6K hr.units (z1v (z4p (z0C (z0g 0 (pv 0)) z0f) z0f) z0f) z0f)))) (z0h (z1n (z0F (i:=1) gj.nd rfl (Or.inl rfl) z0f))
   (z0j (z6v (z0F (i:=2) gj.nd rfl (Or.inl rfl) (z1H (z0i gN (hr.mono (by decide)) rfl (z0a (z1H (z0i ir (hr.mono (by decide)) rfl (z0a (z4p (z0C (z0g 0 (pv 0)) z0f) z0f) z0b))) z0b))))))) z0U)
   (z0h (z6v (z0F (i:=3) gj.nd rfl (Or.inl rfl) (z1H (y4d ja (hr.mono (by decide)) rfl (z0a (z3R (z8h rfl T.jj (z0g 2 (pv 2)))) (z0a (z0g 1 (pv 1)) z0b))))))
   (z0h (z6v (z0F (i:=4) gj.nd rfl (Or.inl rfl) (z1H (z0i gv (hr.mono (by decide)) rfl (z0a (z0g 3 (pv 3)) z0b)))))
   (z0h (z4C PassesOwn.never rfl (z1c rfl T.fS (z0g 1 (pv 1))) (z0l (i:=5) gj.nd rfl (Or.inl rfl)) (z0h (z1h (z0F (i:=6) gj.nd rfl (Or.inl rfl) (z0i g5 (hr.mono (by decide)) rfl (z0a (z0g 3 (pv 3)) (z0a (z0g 5 (pv 5)) z0b)))))
   (z0h (z1n (z0F (i:=7) gj.nd rfl (Or.inl rfl) (z3o (z0a (y6h hr.units (z0g 5 (pv 5)) (z1H (z0i gu (hr.mono (by decide)) rfl (z0a (z0g 3 (pv 3)) z0b)))) (z0a (y6h hr.units (z0g 5 (pv 5)) (z1H (z0i G_uncovered (hr.mono (by decide)) rfl (z0a (z0g 3 (pv 3)) z0b)))) (z0a (y6h hr.units (z0g 5 (pv 5)) (z1H (z0i gQ (hr.mono (by decide)) rfl (z0a (z0g 3 (pv 3)) z0b)))) (z0a (pd_gt (z0C (z0g 4 (pv 4)) (z0g 5 (pv 5))) z0f) z0b)))))))
   (z0h (z5Q (PW.pt (z9f (z2k (z0p (y4F rfl T.gI rfl T.fR (z0g 6 (pv 6))))) (z9f (y8U hr.units (z0g 6 (pv 6)) (z0g 7 (pv 7))) (z7T (y3Z (z0L rfl T.fU (z3R (z1e (N':=["script", "many", "votes", "table", "weights", "thing", "found", "due", "at", "one"])  rfl ⟨rfl,rfl,rfl,rfl,rfl⟩ (n:=9) rfl (z0D (z0g 6 (pv 6))) (fun _ _ _ _ _=>z0l (i:=9) nd26 rfl (Or.inl rfl)) (fun _ _ _ _ _=>z0P (x4p hr.units (z0g 9 (pv 9)) (z3R (z0W (z0a z4B (z0a z4B z0b)))))) (fun _ _ _ _ _=>(z0g 9 (pv 9)))))) z0f))))) (z0j (z0x z4B)) z0U)
   (z0h (z5Q (y3Z (z0L rfl T.fU (z3R (z1e (N':=["script", "many", "votes", "table", "weights", "thing", "found", "due", "at", "one"])  rfl ⟨rfl,rfl,rfl,rfl,rfl⟩ (n:=9) rfl (z0D (z0g 6 (pv 6))) (fun _ _ _ _ _=>z0l (i:=9) nd26 rfl (Or.inl rfl)) (fun _ _ _ _ _=>z0P (z2k (z0p (y1P rfl T.kj rfl T.fR (z0g 9 (pv 9)))))) (fun _ _ _ _ _=>(z0g 9 (pv 9)))))) z0f) (z0j (z0x z4B)) z0U)
   (z0h (z5Q (PW.pt (z9f (PW.pt (z3k (PW.pt (z9f (z0p (z0C (z0g 6 (pv 6)) z0f)) (z7T (z0p (z0C (z0g 6 (pv 6)) z0f))))) (z3C (z2k (z0p (z0C (z0g 6 (pv 6)) z0f)))))) (z7T (PW.pt (z3k (z0p (z0C (z0g 6 (pv 6)) z0f)) (z3C (z2k (z0p (z0C (z0g 6 (pv 6)) z0f))))))))) (z0j (z0x z4B)) z0U)
   (z0h (z1n (z0F (i:=8) gj.nd rfl (Or.inl rfl) (z1v (y5v (z2q (z0g 5 (pv 5)) (z0L rfl T.fU (z0g 2 (pv 2)))) z0f) (z0L rfl T.fU (z0g 2 (pv 2))))))
   (z0j (z5Q (z2k (z0p (z1H (z0i G__law_raised_right (hr.mono (by decide)) rfl (z0a (z0g 2 (pv 2)) (z0a (z0g 8 (pv 8)) (z0a (z0g 5 (pv 5)) z0b))))))) (z0j (z0x z4B)) z0U)))))))))
   (z0j (z0x z4B)))))))))
end
theorem all_mk{l:dE}{w:fE}{K:aa}{h:Heap}{mg:Str->Option Value}{fa:Addr}(X:K.In h)(G:h.Ns mainGlobals mg)(hfa:mg "law" = some (.ref fa))
  {f_law:Addr} {od0 an0:Option Addr} {sl0:Array (Option Value)} {oc0 kV0 dc0 pm0 cd0 ct0:Value} {C_AskError C_BadBallot gq C_NothingLeft:Addr}
  (jU:FnG K "part" x1j) (jA:FnG K "picked" y0z) (jB:FnG K "column" y0R) (iR:FnG K "beaten_by" z5d) (iu:FnG K "beaters_of" z4b) (iS:FnG K "beats_all" z4S) (g6:FnG K "places_true" z3F) (jC:FnG K "covers" y0j) (iT:FnG K "uncovered" z4N) (iw:FnG K "is_covered" z4r) (jb:FnG K "is_chain" z6i) (jn:FnG K "beaters" z7H) (jD:FnG K "stands" z9Y) (jE:FnG K "crowns" z9P) (g7:FnG K "crown_paper" z3u) (gS:FnG K "ended_chains" z1Z) (jo:FnG K "reached" z7E) (iy:FnG K "steps_from" z4l) (jM:FnG K "rings" y3G) (g8:FnG K "places_with" z3K) (jc:FnG K "top_ring" z5O) (jd:FnG K "is_thing" z5Y) (gy:FnG K "tells_each_once" z1S) (jN:FnG K "asked" y2X) (jF:FnG K "voices" y0Q) (jV:FnG K "lead" x0l) (iz:FnG K "puts_ahead" z4f) (gT:FnG K "raised_order" z3i) (jf:FnG K "table_of" z6a) (jG:FnG K "row_of" z9G) (g9:FnG K "pairing_sum" z2u) (jW:FnG K "sign" y7w) (hJ:FnG K "turned_sign" z3D) (jp:FnG K "without" z8d) (jH:FnG K "kernel" y0o) (jO:FnG K "score" y3h) (iV:FnG K "weight_of" z5b) (jq:FnG K "is_even" z8f) (iA:FnG K "is_even_at" z4g) (jg:FnG K "weighing" z5U) (iW:FnG K "odd_picks" z4M) (iB:FnG K "weights_on" z4q) (gF:FnG K "common_divisor" z2m) (gG:FnG K "divisor_of_two" z2l) (hU:FnG K "standing_of" z3I) (gU:FnG K "raised_votes" z3a) (iC:FnG K "_law_order" z4d) (iD:FnG K "_law_votes" z3T) (iE:FnG K "_law_seven" z3X) (gO:FnG K "_law_votes_of" z2B) (iX:FnG K "_law_told" z4V) (gl:FnG K "_law_raised_right" z1D)
  (j5:aA K mainGlobals "law" = some (some (.ref f_law))) (j6:K.lookup f_law=some ⟨oc0,od0,.func (bv "law" "law" (z3c z9U) (z1m z9U) (z0e z9U) .none kV0 dc0 pm0 an0 cd0 ct0),sl0⟩) (c_law:c3 K cd0 "law" = true) (j7:bH K (.ref f_law)=true)
  (h9:aA K mainGlobals "AskError" = some (some (.ref C_AskError))) (jh:cz K C_AskError x2J "ValueError.__new__" = true)
  (x_BadBallot:aA K mainGlobals "BadBallot" = some (some (.ref C_BadBallot))) (iY:cz K C_BadBallot x2J "ValueError.__new__" = true)
  (iF:aA K mainGlobals "Even" = some (some (.ref gq))) (jX:cz K gq x2J "ValueError.__new__" = true)
  (x_NothingLeft:aA K mainGlobals "NothingLeft" = some (some (.ref C_NothingLeft))) (hV:cz K C_NothingLeft x2J "ValueError.__new__" = true)
  (f7:bR K (.ref gq) (.ref C_AskError)=some true) (e_BadBallot_AskError:bR K (.ref C_BadBallot) (.ref C_AskError)=some true) (e_NothingLeft_AskError:bR K (.ref C_NothingLeft) (.ref C_AskError)=some true)
  (gX:z4W K C_AskError=true) (ge:z4W K C_BadBallot=true) (ia:z4W K gq=true) (xb_NothingLeft:z4W K C_NothingLeft=true)
  (gr:aN K (.ref gq) (.ref C_NothingLeft)=some false) (t_BadBallot_NothingLeft:aN K (.ref C_BadBallot) (.ref C_NothingLeft)=some false) (t_NothingLeft_NothingLeft:aN K (.ref C_NothingLeft) (.ref C_NothingLeft)=some true) (gz:aN K (.ref gq) (.type "ValueError")=some true) (f8:aN K (.ref C_BadBallot) (.type "ValueError")=some true) (t_NothingLeft_ValueError:aN K (.ref C_NothingLeft) (.type "ValueError")=some true) (gH:aN K (.ref gq) (.ref C_BadBallot)=some false) (gg:aN K (.ref C_BadBallot) (.ref C_BadBallot)=some true) (t_NothingLeft_BadBallot:aN K (.ref C_NothingLeft) (.ref C_BadBallot)=some false)
  (j8:aA K mainGlobals "all" = some none) (iZ:aA K mainGlobals "enumerate" = some none) (jP:aA K mainGlobals "range" = some none) (j9:aA K mainGlobals "len" = some none) (ka:aA K mainGlobals "any" = some none) (jI:aA K mainGlobals "sorted" = some none) (kb:aA K mainGlobals "int" = some none) (iG:aA K mainGlobals "isinstance" = some none) (jY:aA K mainGlobals "bool" = some none) (kc:aA K mainGlobals "sum" = some none) (kf:aA K mainGlobals "min" = some none) (kg:aA K mainGlobals "max" = some none) (kh:aA K mainGlobals "abs" = some none) (ki:aA K mainGlobals "zip" = some none) (jQ:aA K mainGlobals "tuple" = some none) (jZ:aA K mainGlobals "list" = some none) (iH:aA K mainGlobals "ValueError" = some none):
  ∃fd:fF,(∀(s:Shared) (v:Value),BindsTo s fd ⟨[v],[]⟩ [("script",v)])∧∀base:Heap,K.In base->base.Ns mainGlobals mg->FnOk l.prog w K mg base CX0 21 fa fd ["script"] (x2W K y6G):=by
 have e:=hfa.symm.trans (dX X G j5)
 cases e
 have T:Txt mg:=⟨aM X G j8,aM X G iZ,aM X G jP,aM X G j9,aM X G ka,aM X G jI,aM X G kb,aM X G iG,aM X G jY,aM X G kc,aM X G kf,aM X G kg,aM X G kh,aM X G ki,aM X G jQ,aM X G jZ,aM X G iH⟩
 have ku:=fun_mk (st:=z9U) j6 c_law j7
 have b_law:=ku.binds (ps:=j2) fun _ _ _ _ _ _ us hl=>match us,hl with | [_],_=>rfl
 refine⟨bv "law" "law" (z3c z9U) (z1m z9U) (z0e z9U) .none kV0 dc0 pm0 an0 cd0 ct0,fun s v=>.of_eq rfl,fun base KB GB=>?_⟩
 let cl:Nat->Value:=fun n=>match n with | 0=>.ref C_AskError | 1=>.ref C_BadBallot | 2=>.ref gq | 3=>.ref C_NothingLeft | _=>.none
 have Z:Cls K mg base cl:=⟨⟨C_AskError,rfl,y5U KB GB h9 jh,h9,gX⟩,⟨C_BadBallot,rfl,y5U KB GB x_BadBallot iY,x_BadBallot,ge⟩,⟨gq,rfl,y5U KB GB iF jX,iF,ia⟩,⟨C_NothingLeft,rfl,y5U KB GB x_NothingLeft hV,x_NothingLeft,xb_NothingLeft⟩,fun C h=>by cases h;exact f7,fun C h=>by cases h;exact e_BadBallot_AskError,fun C h=>by cases h;exact e_NothingLeft_AskError,fun D hD=>by cases hD;exact y0e (fun C hn=>by cases hn.symm.trans iF;exact gr) (y0e (fun C hn=>by cases hn.symm.trans x_BadBallot;exact t_BadBallot_NothingLeft) (y0e (fun C hn=>by cases hn.symm.trans x_NothingLeft;exact t_NothingLeft_NothingLeft) (j1))),y0e (fun C hn=>by cases hn.symm.trans iF;exact gz) (y0e (fun C hn=>by cases hn.symm.trans x_BadBallot;exact f8) (y0e (fun C hn=>by cases hn.symm.trans x_NothingLeft;exact t_NothingLeft_ValueError) (j1))),fun D hD=>by cases hD;exact y0e (fun C hn=>by cases hn.symm.trans iF;exact gH) (y0e (fun C hn=>by cases hn.symm.trans x_BadBallot;exact gg) (y0e (fun C hn=>by cases hn.symm.trans x_NothingLeft;exact t_NothingLeft_BadBallot) (j1)))⟩
 have ju:=x1b (P:=l.prog) (w:=w) (base:=base) (fg2 X G jA) T
 have i5:=kB (P:=l.prog) (w:=w) (base:=base) (fg2 X G jU) T ju
 have jv:=y9E (P:=l.prog) (w:=w) (base:=base) (fg2 X G jB) T
 have G_beats_all:=y2C (P:=l.prog) (w:=w) (base:=base) (fg3 X G iS) T
 have G_places_true:=z8u (P:=l.prog) (w:=w) (base:=base) (fg1 X G g6) T
 have G_beaten_by:=y2g (P:=l.prog) (w:=w) (base:=base) (fg2 X G iR) T G_places_true
 have ij:=y0P (P:=l.prog) (w:=w) (base:=base) (fg2 X G iu) T jv G_places_true
 have jw:=x0c (P:=l.prog) (w:=w) (base:=base) (fg3 X G jC) T G_beats_all G_beaten_by
 have ig:=y0C (P:=l.prog) (w:=w) (base:=base) (fg2 X G iw) T jw
 have G_uncovered:=y1g (P:=l.prog) (w:=w) (base:=base) (fg1 X G iT) T ig
 have i7:=y3V (P:=l.prog) (w:=w) (base:=base) (fg2 X G jb) T G_beats_all
 have gJ:=y6K (P:=l.prog) (w:=w) (base:=base) (fg2 X G jn) T G_beats_all
 have jx:=x1i (P:=l.prog) (w:=w) (base:=base) (fg2 X G jD) T i7 gJ
 have G_ended_chains:=z7N (P:=l.prog) (w:=w) (base:=base) (fg3 X G gS) T
 have gZ:=z8z (P:=l.prog) (w:=w) (base:=base) (fg2 X G g7) T G_beaten_by gJ jx G_ended_chains
 have gQ:=y8p (P:=l.prog) (w:=w) (base:=base) (fg1 X G jE) T gZ
 have ii:=z9j (P:=l.prog) (w:=w) (base:=base) (fg2 X G iy) T G_beaten_by
 have jk:=y6r (P:=l.prog) (w:=w) (base:=base) (fg2 X G jo) T ii
 have g4:=z8D (P:=l.prog) (w:=w) (base:=base) (fg2 X G g8) T
 have jJ:=x3y (P:=l.prog) (w:=w) (base:=base) (fg1 X G jM) T jk g4
 have gu:=y3B (P:=l.prog) (w:=w) (base:=base) (fg1 X G jc) T jJ
 have i8:=y3I (P:=l.prog) (w:=w) (base:=base) (fg2 X G jd) T
 have gx:=z5w (P:=l.prog) (w:=w) (base:=base) (fg2 X G gy) T i8
 have gC:=y8u (P:=l.prog) (w:=w) (base:=base) (fg1 X G jF) T
 have jL:=x3u (P:=l.prog) (w:=w) (base:=base) (fg2 X G jN) T Z gx gC
 have gK:=y0c (P:=l.prog) (w:=w) (base:=base) (fg3 X G iz) T
 have jT:=kC (P:=l.prog) (w:=w) (base:=base) (fg3 X G jV) T gC gK
 have gw:=z7Q (P:=l.prog) (w:=w) (base:=base) (fg2 X G gT) T Z
 have jy:=x0N (P:=l.prog) (w:=w) (base:=base) (fg3 X G jG) T jT
 have ja:=y3t (P:=l.prog) (w:=w) (base:=base) (fg2 X G jf) T Z jL jy
 have i6:=kE (P:=l.prog) (w:=w) (base:=base) (fg2 X G jW) T
 have G_turned_sign:=z8B (P:=l.prog) (w:=w) (base:=base) (fg1 X G hJ) T
 have G_without:=y6w (P:=l.prog) (w:=w) (base:=base) (fg2 X G jp) T i5
 have G_pairing_sum:=z8w (P:=l.prog) (w:=w) (base:=base) (fg1 X G g9) T i6 G_turned_sign G_without
 have jz:=y9F (P:=l.prog) (w:=w) (base:=base) (fg1 X G jH) T G_turned_sign G_without G_pairing_sum
 have gW:=y2s (P:=l.prog) (w:=w) (base:=base) (fg2 X G iV) T
 have js:=x1Z (P:=l.prog) (w:=w) (base:=base) (fg3 X G jO) T G_beaten_by ij gW
 have ik:=z9q (P:=l.prog) (w:=w) (base:=base) (fg3 X G iA) T js
 have jm:=y6s (P:=l.prog) (w:=w) (base:=base) (fg2 X G jq) T ik
 have iO:=y1v (P:=l.prog) (w:=w) (base:=base) (fg1 X G iW) T
 have gD:=z5N (P:=l.prog) (w:=w) (base:=base) (fg2 X G gG) T
 have gE:=z5R (P:=l.prog) (w:=w) (base:=base) (fg1 X G gF) T gD
 have il:=z9I (P:=l.prog) (w:=w) (base:=base) (fg2 X G iB) T i5 jz gE
 have gv:=y3j (P:=l.prog) (w:=w) (base:=base) (fg1 X G jg) T G_uncovered jm iO il
 have g5:=z8y (P:=l.prog) (w:=w) (base:=base) (fg2 X G hU) T G_uncovered gQ gu gv
 have gR:=z7t (P:=l.prog) (w:=w) (base:=base) (fg3 X G gU) T Z gw
 have io:=z9k (P:=l.prog) (w:=w) (base:=base) (fg2 X G iC) T
 have iq:=y0H (P:=l.prog) (w:=w) (base:=base) (fg2 X G iD) T io
 have ir:=z9D (P:=l.prog) (w:=w) (base:=base) (fg1 X G iE) T
 have gN:=z6M (P:=l.prog) (w:=w) (base:=base) (fg1 X G gO) T
 have iQ:=y1M (P:=l.prog) (w:=w) (base:=base) (fg3 X G iX) T Z gR
 have G__law_raised_right:=z4D (P:=l.prog) (w:=w) (base:=base) (fg3 X G gl) T Z iQ
 exact law_of (kK ku T Z G_uncovered gQ gu ja gv g5 iq ir gN G__law_raised_right)
theorem walk{l:dE}{q:dw}{loose:List Str}{XP:(Str->Option Value)->Heap->Prop}{YP:fE->Heap->Prop}{d:DefRec}{K:Params->aa}(hn:l.most=some 63)(hdf:d.params.defaults=[])
  (hlaw:∀ns:List Int,ns.length≤63->y6G [.scr ns]=some (.bl true)) (hY:∀(w:fE) (h:Heap),YP w h->(K w.params).In h)
  (F:∀(w:fE) (mg:Str->Option Value) (fa:Addr) (h:Heap),(K w.params).In h->h.Ns mainGlobals mg->mg d.name=some (.ref fa) →
   ∃fd:fF,(∀(s:Shared) (u:Value),BindsTo s fd ⟨[u],[]⟩ [("script",u)])∧∀base:Heap,(K w.params).In base->base.Ns mainGlobals mg->FnOk l.prog w (K w.params) mg base CX0 21 fa fd ["script"] (x2W (K w.params) y6G)):
  PySem.W.WalkO q loose XP YP l.row.toRowW d [] (fun f vs=>PySem.call f vs):=
 L2.walk_of (n:=63) (k:=21) (x := "script") (CX:=fun _=>CX0) (sp:=fun w=>x2W (K w.params) y6G) hn (by decide) hdf ⟨rfl,by decide,by decide⟩ hY F (fun _ _ a ns hl hO hS=>⟨a,ns,rfl,x3p hO hS,hlaw ns hl,fun _=>rfl⟩) fun _ _ _ _ _ z=>z
end Prg
namespace Prg
open PySem L2
open Lean in
local macro_rules
 | `(tactic| simp! only[$xs,*] $[$loc]?)=>do
  let a ←(("x1F y9k ev_C ev_d2 ev_d1 x0T y4M y8P x5a y8N x4g ev_if y4w y4R y8g y5m x5b x5g z7O ev_is x4h y7J y7g x0f y7C y1X x4E x1l x1N y9n x1A x0C x1M x0I y9j x0H x4z x0x x4H x4J x5B ev_m0 ev_m1 y4D y5T y7O y5Q y8O y8D y8Q x5x x1J y4L x4F y4c y4N y4H y4v y5L x0Z x4U x1r y4n x4l x4A y9A y1J x4K x1H eo_r1 eo_2 x4f y9B y7N y5i x4v y9Z x0t x1z y9J eo_nx eo_rt x4D x4d x4q y8Z x1a y8s x0k x1G x5w eo_in y8A x4e y5O y9w x5m x4B x5s x5f x4M x4a x5p x4I y8e x1w x0S y7W y1n y4b ea_lt ea_le x3I y5D x4T x4c x4w y9N y8c y9U z9M x5E x4i x5c y8K x0q y8H y3C x5n y9H x0w y7F y8Y x5d x4x es_v1 es_v2 x3Z y4K y4f y2r y1r y4l x4N x4n y9g x1m eb_bs eb_ms eb_mn eb_s0 eb_sS eb_mc y9d eb_rS eb_r0 eb_ca eb_na".splitOn " ").toArray).mapM fun s=>`(Lean.Parser.Tactic.simpLemma| $(mkIdent s.toName):term)
  let b:Syntax.TSepArray [`Lean.Parser.Tactic.simpStar,`Lean.Parser.Tactic.simpErase,`Lean.Parser.Tactic.simpLemma] "," := ⟨(Syntax.TSepArray.ofElems (sep := ",") a).elemsAndSeps⟩
  `(tactic| simp only[$b,*,$xs,*] $[$loc]?)
open Lean in
local macro_rules
 | `(tactic| simp_all! only[$xs,*])=>do
  let a ←(("Int.reduceEq Int.reduceLT Int.reduceLE Int.reduceGT Int.reduceAdd Int.reduceSub Int.reduceMul Int.reduceNeg decide_true decide_false Bool.or_false Bool.false_or Bool.or_true Bool.true_or Bool.and_true Bool.true_and Bool.and_false Bool.false_and Bool.not_true Bool.not_false".splitOn " ").toArray).mapM fun s=>`(Lean.Parser.Tactic.simpLemma| $(mkIdent s.toName):term)
  let b:Syntax.TSepArray [`Lean.Parser.Tactic.simpStar,`Lean.Parser.Tactic.simpErase,`Lean.Parser.Tactic.simpLemma] "," := ⟨(Syntax.TSepArray.ofElems (sep := ",") a).elemsAndSeps⟩
  `(tactic| simp! only[$b,*,$xs,*])
structure Full(m:Nat)(T:List (List Bool)):Prop where
 sq:Sq m T
 own:∀i<m,at2 T i i=false
 two:∀i<m,∀j<m,i≠j->at2 T i j = !at2 T j i
theorem z7Y(bs:List (Int×List Int))(hl:bs.length≤1000000):z3v [z1P bs]=some (.int (z6t bs)):=by
 refine z0s rfl ?_
 have hl':(bs.map z1f).length≤1000000:=by rw[ah];exact hl
 have hc:z1d (z1N z3p (d2 ixD (z0c 1) (dC (.int 0))) [some (z1P bs)]) (bs.map z1f)=some ((bs.map (·.1)).map .int):=by
  rw[aJ]
  exact z1F (fun b:Int×List Int=>.int b.1) fun b _=>by simp! only[z7j]
 simp! only[y0D,z9V,z2j hl',hc,x5v,z0d]
 rfl
theorem x1x{o:List Int}{a b:Int}(ha:a∈o)(hb:b∈o):z1i [z2i o,.int a,.int b]=some (.bl (ahd o a b)):=by
 refine z0s rfl ?_
 have e:decide ((plc o a:Int)<(plc o b:Int))=ahd o a b:=by unfold ahd;congr 1;rw[eq_iff_iff];omega
 simp! only[z4n,z9x ha,z9x hb,e,z0d]
theorem lead_eq(bs:List (Int×List Int))(hl:bs.length≤1000000){a b:Int}(hab:a≠b)(h:∀x∈bs,a∈x.2∧b∈x.2):y0Z [z1P bs,.int a,.int b]=some (.int (y0T bs a b)):=by
 refine z0s rfl ?_
 have hl':(bs.map z1f).length≤1000000:=by rw[ah];exact hl
 have c1:∀δ3 δ4,z1d (z1N (z0q (z0k z1i [d2 ixD (z0c 5) (dC (.int 1)),z0c 1,z0c 2])) (z0c 5) [some (z1P bs),some (.int a),some (.int b),δ3,δ4]) (bs.map z1f)=some ((bs.filter fun x=>ahd x.2 a b).map z1f):=fun δ3 δ4=>
  z7r (fun x=>ahd x.2 a b) z1f (fun x hx=>by simp! only[z6e,x1x (h x hx).1 (h x hx).2]) fun x hx _=>by simp! only[]
 have c2:∀δ3 δ4,z1d (z1N (z0q (z0k z1i [d2 ixD (z0c 5) (dC (.int 1)),z0c 2,z0c 1])) (z0c 5) [some (z1P bs),some (.int a),some (.int b),δ3,δ4]) (bs.map z1f)=some ((bs.filter fun x=>ahd x.2 b a).map z1f):=fun δ3 δ4=>
  z7r (fun x=>ahd x.2 b a) z1f (fun x hx=>by simp! only[z6e,x1x (h x hx).2 (h x hx).1]) fun x hx _=>by simp! only[]
 have f1:=z1o (z2K (bs.filter fun x=>ahd x.2 a b))
 have f2:=z1o (z2K (bs.filter fun x=>ahd x.2 b a))
 have t1:D.lst ((bs.filter fun x=>ahd x.2 a b).map z1f)=z1P (bs.filter fun x=>ahd x.2 a b):=rfl
 have t2:D.lst ((bs.filter fun x=>ahd x.2 b a).map z1f)=z1P (bs.filter fun x=>ahd x.2 b a):=rfl
 have v1:=z7Y (bs.filter fun x=>ahd x.2 a b) (aG (aX _ _) hl)
 have v2:=z7Y (bs.filter fun x=>ahd x.2 b a) (aG (aX _ _) hl)
 simp! only[x1u,z9V,z2j hl',c1,c2,f1,f2,t1,t2,v1,v2,z0d,y9p hab bs h]
theorem x3B(x:Int)(m:Nat):z3n [.int x,.int (m:Int)]=some (.bl (decide (0≤x)&&decide (x<(m:Int)))):=by
 refine z0s rfl ?_
 have c:chO leI ltI (some (.int 0)) (some (.int x)) (some (.int (m:Int)))=some (.bl (decide (0≤x)&&decide (x<(m:Int)))):=x2U ea_le ea_lt
 simp_all! only[z5L,c,z0d]
def tk(m:Nat):List Int->List Int->Bool
 |_,[]=>true
 |p,x::r=>((decide (0≤x)&&decide (x<(m:Int))) && !p.contains x)&&tk m (p++[x]) r
theorem y9Y{m:Nat}:∀{o p:List Int},(∀x∈o,0≤x∧x<(m:Int))->o.Nodup->(∀x∈o,x∉p)->tk m p o=true
 |[],_,_,_,_=>rfl
 |x::r,p,h1,h2,h3=>by
  have hx:=h1 x af
  have nd:=aw.mp h2
  have hp:=h3 x af
  have ih:=y9Y (m:=m) (o:=r) (p:=p++[x]) (fun y hy=>h1 y (ae _ hy)) nd.2 fun y hy z=>by
   rcases au.mp z with z | z
   ·exact h3 y (ae _ hy) z
   ·rw[aq]at z;exact nd.1 (z ▸ hy)
  show(((decide (0≤x)&&decide (x<(m:Int))) && !p.contains x)&&tk m (p++[x]) r)=true
  have hc:p.contains x=false:=by rw[←Bool.not_eq_true,aR];exact hp
  rw[ih,hc,decide_eq_true hx.1,decide_eq_true hx.2]
  rfl
def y2j(m:Nat)(o:List Int):Bool:=decide ((o.length:Int)=(m:Int))&&tk m [] o
theorem y4G{p:List Int}{x:Int}:inK (.int x) (y1z p)=some (p.contains x):=by
 show some (y1q (p.map Sum.inl) (.inl x))=_
 congr 1
 unfold y1q
 rw[cK,cT]
 congr 1
 funext y
 show decide ((Sum.inl y:Key)=Sum.inl x)=(x==y)
 by_cases h:y=x
 ·subst h;simp
 ·have h1:decide ((Sum.inl y:Key)=Sum.inl x)=false:=decide_eq_false fun z=>h (by cases z;rfl)
  have h2:(x==y)=false:=by rw[beq_eq_false_iff_ne];exact fun z=>h z.symm
  rw[h1,h2]
theorem z9Q{i:Nat}{b:SS->Option Out}{m:Nat}{d:D}(J:List Int->SS->Prop):∀{o p:List Int} {s:SS},p.length+o.length≤1000000->J p s →
  (∀p x s,p.length≤1000000->J p s->hol (b (s.set i (some (.sh (.int x))))) fun r=>if(((decide (0≤x)&&decide (x<(m:Int))) && !p.contains x))=true then ∃s',r = .nx s'∧J (p++[x]) s' else r = .rt d) →
  hol (y0S i b (o.map .int) s) fun r=>if tk m p o=true then ∃s' p',r = .nx s'∧J p' s' else r = .rt d
 |[],p,s,_,h0,_=>⟨_,rfl,(if_pos rfl).mpr ⟨s,p,rfl,h0⟩⟩
 |x::r,p,s,hn,h0,hs=>by
  have hn:p.length+(r.length+1)≤1000000:=hn
  obtain⟨o,e,q⟩:=hs p x s (by omega) h0
  rw[aC]
  unfold y0S
  rw[e]
  show hol _ fun q=>if(((decide (0≤x)&&decide (x<(m:Int))) && !p.contains x)&&tk m (p++[x]) r)=true then _ else _
  cases hc:((decide (0≤x)&&decide (x<(m:Int))) && !p.contains x)with
  |true=>
   rw[hc,if_pos rfl]at q
   obtain⟨s1,rfl,h1⟩:=q
   rw[eK]
   exact z9Q J (by simp;omega) h1 hs
  |false=>
   rw[hc,if_neg ar]at q
   subst q
   rw[eD]
   exact⟨_,rfl,(if_neg ar).mpr rfl⟩
theorem y7R{m:Nat}{o:List Int}(hl:o.length≤1000):z0T [z2i o,.int (m:Int)]=some (.bl (y2j m o)):=by
 refine z0s rfl ?_
 have t0:D.dct [] []=y1z []:=rfl
 unfold y2j
 cases hd:decide ((o.length:Int)=(m:Int))with
 |false=>
  simp_all! only[z1p,x0Q,hd,z0d]
 |true=>
  simp_all! only[z1p,x0Q,hd,t0,seq_ord]
  obtain⟨r,e,q⟩:=z9Q (i:=3) (m:=m) (d:=.bl false) (b:=(z0J (ifO (x0g (z2W (z0q (z0k z3n [(z0c 3),(z0c 1)]))) (x1V (z0c 3) (z0c 2))) (z2y (dC (.bl false))) z1q) (dput 2 (z0c 3) (dC (.bl true))))) (fun p s=>∃o3,s=[some (.sh (z2i o)),some (.sh (.int (m:Int))),some (.ow (y1z p)),o3]) (o:=o) (p:=[]) (s:=[some (.sh (z2i o)),some (.sh (.int (m:Int))),some (.ow (y1z [])),none]) (by simp;omega) ⟨_,rfl⟩ (by
   rintro p x s hp ⟨o3,rfl⟩
   have th:=x3B x m
   cases h1:(decide (0≤x)&&decide (x<(m:Int)))with
   |false=>
    rw[h1]at th
    simp_all! only[th,z0d,fD,if_false]
   |true=>
    rw[h1]at th
    cases h2:p.contains x with
    |true=>
     simp_all! only[th,y4G,h2,z0d,fD,if_false]
    |false=>
     have hx:x∉p:=fun z=>by rw[aR.mpr z]at h2;cases h2
     simp_all! only[th,y4G,h2,x2t hx hp,z0d,if_true]
     exact⟨_,rfl,_,rfl⟩)
  rw[e]
  cases hk:tk m [] o with
  |true=>
   rw[hk,if_pos rfl]at q
   obtain⟨s',p',rfl,o3,rfl⟩:=q
   simp_all! only[z0d]
  |false=>
   rw[hk,if_neg ar]at q
   subst q
   simp_all! only[z0d]
theorem y6v{m:Nat}{o:List Int}(h:o.Perm (z5E m)):y2j m o=true:=by
 have hl:o.length=m:=by have:=h.length_eq;simpa[z5E] using this
 unfold y2j
 rw[hl,decide_eq_true rfl,y9Y (fun x hx=>x2F (h.mem_iff.mp hx)) (h.nodup_iff.mpr y6o) fun _ _ z=>by cases z]
 rfl
theorem y6J{m:Nat}(hm:m≤1000){bs:List (Int×List Int)}(hl:bs.length≤1000000)(g:∀b∈bs,b.2.length≤1000∧y2j m b.2=true):z9H [z1P bs,.int (m:Int)]=some (if z6t bs % 2=0 then .exc 2 else .val .non):=by
 have vo:=z7Y bs hl
 have dm2:z2J (.int (z6t bs)) (.int 2)=some (.int (z6t bs % 2)):=z1Q (by omega)
 have loop:hol (y0S 2 (ifO (z2W (z0q (z0k z0T [(d2 ixD (z0c 2) (dC (.int 1))),(z0c 1)]))) (z5i 1 (dC (.str "the order of a ballot does not tell each thing once and nothing else"))) z1q) (bs.map z1f) [some (.sh (z1P bs)),some (.sh (.int (m:Int))),none]) fun o=>∃s,o = .nx s∧∃o2,s=[some (.sh (z1P bs)),some (.sh (.int (m:Int))),o2]:=by
  refine z3j (fun pre s=>∃o2,s=[some (.sh (z1P bs)),some (.sh (.int (m:Int))),o2]) ⟨_,rfl⟩ ?_ fun s z=>⟨s,rfl,z⟩
  rintro pre b post e s ⟨o2,rfl⟩
  have hb:=g b (by rw[e];simp)
  have t:=y7R (m:=m) hb.1
  rw[hb.2]at t
  simp_all! only[z6e,t,z0d]
  exact⟨_,rfl⟩
 by_cases hz:z6t bs % 2=0
 ·rw[if_pos hz]
  refine y2L rfl ?_
  have d0:decide (z6t bs % 2=0)=true:=decide_eq_true hz
  simp! only[y0K,z9V]
  refine z0z loop ?_
  rintro s ⟨o2,rfl⟩
  simp! only[vo,dm2,d0,z0d]
  exact⟨_,rfl⟩
 ·rw[if_neg hz]
  refine runX_nx rfl ?_
  have d0:decide (z6t bs % 2=0)=false:=decide_eq_false hz
  simp! only[y0K,z9V]
  refine z0z loop ?_
  rintro s ⟨o2,rfl⟩
  simp! only[vo,dm2,d0,z0d]
  exact⟨_,rfl⟩
structure Good2(m:Nat)(b:Int×List Int):Prop where
 perm:b.2.Perm (z5E m)
theorem Good2.mem{m:Nat}{b:Int×List Int}(h:Good2 m b){k:Nat}(hk:k<m):((k:Nat):Int)∈b.2:=h.perm.mem_iff.mpr (aP.mpr ⟨k,ak.mpr hk,rfl⟩)
theorem Good2.len{m:Nat}{b:Int×List Int}(h:Good2 m b):b.2.length=m:=by
 have:=h.perm.length_eq
 simpa[z5E] using this
theorem y7l{m:Nat}(hm:m≤1000){bs:List (Int×List Int)}(hl:bs.length≤1000000)(g:∀b∈bs,Good2 m b){i:Nat}(hi:i<m):z6Q [z1P bs,.int (m:Int),.int (i:Int)]=some (z3Q ((ad m).map fun j=>!decide (i=j)&&decide (0<y0T bs i j))):=by
 refine z0s rfl ?_
 have hr:x2S (some (.int (m:Int)))=some (z2h 0 m):=by rw[z8a (by omega)];rfl
 have hl2:((ad m).map nD).length≤1000000:=by rw[ah,aW];omega
 have c:z1d (z1N z3p (y6Y (d2 neD (z0c 2) (z0c 3)) (d2 gtI (z0k y0Z [z0c 0,z0c 2,z0c 3]) (dC (.int 0)))) [some (z1P bs),some (.int (m:Int)),some (.int (i:Int))]) ((ad m).map nD)=some (((ad m).map fun j=>!decide (i=j)&&decide (0<y0T bs i j)).map bD):=by
  rw[aJ]
  refine z1F (fun j:Nat=>bD (!decide (i=j)&&decide (0<y0T bs i j))) fun j hj=>?_
  have hj:=ak.mp hj
  by_cases h:i=j
  ·subst h
   simp_all! only[nD,bD]
  ·have hab:(i:Int)≠(j:Int):=by omega
   have d:decide ((i:Int)=(j:Int))=false:=decide_eq_false hab
   have d':decide (i=j)=false:=decide_eq_false h
   have l:=lead_eq bs hl hab fun x hx=>⟨(g x hx).mem hi,(g x hx).mem hj⟩
   simp_all! only[nD,bD,d,d',l]
 have fl:=z1o (z1V ((ad m).map fun j=>!decide (i=j)&&decide (0<y0T bs i j)))
 simp! only[z9A,hr,z1l,z2j hl2,c,fl,z0d]
 rfl
theorem tabL_sq{m:Nat}{bs:List (Int×List Int)}:Sq m (tabL m bs):=by
 have:=z7S (th:=ad m) (f:=fun i j=>!decide (i=j)&&decide (0<y0T bs i j))
 rwa [aW]at this
theorem y6L{m:Nat}(hm:m≤1000){bs:List (Int×List Int)}(hl:bs.length≤1000000)(g:∀b∈bs,Good2 m b)(ho:z6t bs % 2=1):z4x [z1P bs,.int (m:Int)]=some (.val (z0G (tabL m bs))):=by
 refine y3U rfl ?_
 have ha:=y6J hm hl (fun b hb=>⟨by rw[(g b hb).len];exact hm,y6v (g b hb).perm⟩)
 rw[if_neg (by omega)]at ha
 simp! only[z5W,ha,z1J (show m≤1000000 by omega),z1l]
 rw[z5l (fun i:Nat=>z3Q ((ad m).map fun j=>!decide (i=j)&&decide (0<y0T bs i j))) (by simp;omega) fun i hi=>by
  have:=y7l hm hl g (ak.mp hi)
  simp! only[nD,this]]
 simp! only[z0d]
 unfold tabL z0O z0G
 rw[aJ]
 rfl
theorem y7i{m i j:Nat}:at2 (ai m (ai m false)) i j=false:=by
 unfold at2
 simp only[aZ,bA]
 by_cases h:i<m
 ·simp only[h,if_true,cA,bA]
  by_cases h2:j<m <;> simp[h2]
 ·simp[h]
theorem y4e{o:List Int}:(z2i o).imm=true:=z2v o
theorem y5s{x y:Int}(hab:x≠y):∀{bs:List (Int×List Int)},(∀b∈bs,x∈b.2∧y∈b.2)->y0T bs y x = -y0T bs x y
 |[],_=>rfl
 |b::bs,h=>by
  have ih:=y5s hab (bs:=bs) fun c hc=>h c (ae _ hc)
  obtain⟨h1,h2⟩:=h b af
  have e:∀u v,y0T (b::bs) u v=(if ahd b.2 u v=true then b.1 else -b.1)+y0T bs u v:=fun u v=>rfl
  rw[e,e,ih,x0z h1 h2 hab]
  cases ahd b.2 x y <;> simp <;> omega
theorem y3l{m:Nat}{bs:List (Int×List Int)}{i j:Nat}(hi:i<m)(hj:j<m):at2 (tabL m bs) i j=(!decide (i=j)&&decide (0<y0T bs (i:Int) (j:Int))):=at_grid hi hj
theorem x0v{m:Nat}{bs:List (Int×List Int)}(hg:∀b∈bs,Good2 m b)(ho:z6t bs % 2=1):Full m (tabL m bs):=by
 refine⟨tabL_sq,fun i hi=>by rw[y3l hi hi];simp,fun i hi j hj hij=>?_⟩
 have an:=y5s (x:=(j:Int)) (y:=(i:Int)) (by omega) (bs:=bs) fun b hb=>⟨(hg b hb).mem hj,(hg b hb).mem hi⟩
 have od:=y8E (a:=(j:Int)) (b:=(i:Int)) bs
 rw[y3l hi hj,y3l hj hi,decide_eq_false hij,decide_eq_false (Ne.symm hij),an]
 by_cases q:0<y0T bs (j:Int) (i:Int)
 ·rw[decide_eq_true q,decide_eq_false (by omega)];rfl
 ·rw[decide_eq_false q,decide_eq_true (by omega)];rfl
theorem x2Y{x y:List Int}{p:Nat}(h:p<y.length):((x++[y[p]])++y.eraseIdx p).Perm (x++y):=by
 rw[aT]
 refine List.Perm.append_left x ?_
 show(y[p]::y.eraseIdx p).Perm y
 rw[List.eraseIdx_eq_take_drop_succ]
 have e:y=y.take p++y[p]::y.drop (p+1):=by
  rw[←bj h,eW]
 exact(List.perm_middle.symm).trans (by rw[←e])
theorem x2G{m:Nat}(hm:m≤60)(c:Int):hol (z2O [.int c,.int (m:Int)]) fun d=>∃o,d=z2i o∧o.Perm (z5E m):=by
 refine z6s rfl ?_
 have hr:x2S (some (.int (m:Int)))=some (z2h 0 m):=by rw[z8a (by omega)];rfl
 have sm:z8N (some (z2h 0 m))=some (z2h 0 m):=by first | exact y0k (by rw[z1l];simp;omega) | rfl
 have rl:z2h 0 m=(z5E m).map D.int:=by
  have:=y3J (m:=m)
  unfold z2i at this
  exact D.tup.inj this
 have fl:=z1o (z2v (z5E m))
 rw[rl]at hr sm
 simp! only[z4c,hr,sm,fl,z6W]
 refine z0z (I:=fun s=>∃(o:List Int) (c:Int),o.Perm (z5E m)∧s=[some (.sh (.int c)),some (.sh (.int (m:Int))),some (.ow (.lst [])),some (.ow (.lst (o.map .int)))]) ?_ ?_
 ·refine z3U (fun k s=>∃(x y:List Int) (c:Int),y.length=k∧(x++y).Perm (z5E m)∧s=[some (.sh (.int c)),some (.sh (.int (m:Int))),some (.ow (.lst (y.map .int))),some (.ow (.lst (x.map .int)))]) (n:=m) ⟨[],z5E m,c,by simp[z5E],List.Perm.refl _,rfl⟩ ?_ (by omega)
  rintro k s ⟨x,y,c,hk,hp,rfl⟩
  have hxl:x.length+y.length=m:=by have:=hp.length_eq;simpa[z5E] using this
  have ln:z2t [.lst (y.map D.int)]=some (.int (y.length:Int)):=by rw[z9M,ah]
  cases y with
  |nil=>
   have gt:gtI (.int ((([]:List Int).length:Nat):Int)) (.int 0)=some (.bl false):=by rw[x3I];rfl
   refine⟨false,by simp! only[ln];rfl,fun _=>⟨_,rfl,x,c,by simpa using hp,rfl⟩,(fun h=>nomatch h)⟩
  |cons y0 yr=>
   obtain⟨y,hy⟩:∃y,y=y0::yr:=⟨_,rfl⟩
   have hpos:0<y.length:=by rw[hy];simp
   rw[←hy]at hk hp hxl ln ⊢
   have gt:gtI (.int (y.length:Int)) (.int 0)=some (.bl true):=by rw[x3I,decide_eq_true (by omega)]
   refine⟨true,by simp! only[ln,gt],(fun h=>nomatch h),fun _=>⟨y.length - 1,by omega,?_⟩⟩
   obtain⟨p,ep,hpl⟩:=z5a (x:=c) (n:=y.length) hpos
   have md:z2J (.int c) (.int (y.length:Int))=some (.int (p:Int)):=by rw[z1Q (by omega),ep]
   have pk:=popK_eq (i:=3) (j:=2) (s:=[some (.sh (.int c)),some (.sh (.int (m:Int))),some (.ow (.lst (y.map .int))),some (.ow (.lst (x.map .int)))]) (f:=d2 z2J (z0c 0) (z0k z2t [(z0c 2)])) (x:=x) (y:=y) (p:=p) rfl rfl (by simp! only[ln,md]) hpl (by omega) (by omega)
   have ln2:z2t [.lst ((y.eraseIdx p).map D.int)]=some (.int ((y.eraseIdx p).length:Int)):=by rw[z9M,ah]
   have el:(y.eraseIdx p).length=y.length - 1:=List.length_eraseIdx_of_lt hpl
   have dv:∃z:Int,z6Z (.int c) (.int (((y.eraseIdx p).length:Int)+1))=some (.int z):=⟨_,z5B ⟨by omega,by omega⟩⟩
   obtain⟨z,dv⟩:=dv
   have pp:=(x2Y (x:=x) hpl).trans hp
   obtain⟨X,hX⟩:∃X,X=x++[y[p]]:=⟨_,rfl⟩
   obtain⟨Y,hY⟩:∃Y,Y=y.eraseIdx p:=⟨_,rfl⟩
   rw[←hX,←hY]at pk pp
   rw[←hY]at ln2 dv el
   simp! only[pk,ln2,dv,z0d]
   exact⟨X,Y,z,el,pp,rfl⟩
 ·rintro s ⟨o,c,hp,rfl⟩
  have tu:x1U [.lst (o.map D.int)]=some (z2i o):=rfl
  have im:=y2l (d:=z2i o) y4e
  simp! only[tu,im,z0d]
  exact⟨_,rfl,o,rfl,hp⟩
theorem up_set{o:List Int}{p:Nat}{t:Int}(h:p+1<o.length):(o.set (p+1) (o[p]'(by omega))).set p t=o.take p++[t,o[p]'(by omega)]++o.drop (p+2):=by
 refine bi (by simp;omega) fun k h1 h2=>?_
 rw[dM]
 by_cases h3:p=k
 ·subst h3
  rw[if_pos rfl,cf (by simp;omega),cQ (by simp;omega)]
  simp[cH (show p≤o.length by omega)]
 ·rw[if_neg h3,dM]
  by_cases h4:p+1=k
  ·subst h4
   rw[if_pos rfl,cf (by simp;omega),cQ (by simp;omega)]
   simp[cH (show p≤o.length by omega)]
  ·rw[if_neg h4]
   by_cases h5:k<p
   ·rw[cf (by simp;omega),cf (by simp;omega)]
    simp
   ·rw[cQ (by simp;omega)]
    simp[cH (show p≤o.length by omega)]
    congr 1
    omega
def upO(o:List Int)(t:Int):List Int:=o.take (plc o t - 1)++(t::o[plc o t - 1]?.toList)++o.drop (plc o t+1)
theorem ix_ordN{o:List Int}{k:Nat}(h:k<o.length):ixD (z2i o) (.int (k:Int))=some (.int o[k]):=by
 show atI (o.map D.int) (k:Int)=_
 exact z1u (by rw[ac (by simpa using h),bU])
theorem y5q{x y:List Int}(h:x.length+y.length≤1000000):catT (z2i x) (z2i y)=some (z2i (x++y)):=by
 unfold z2i
 rw[aF]
 exact if_pos (z1T (by simpa using h))
theorem z8m{o:List Int}{t:Int}(hl:o.length≤1000)(ht:t∈o)(hp:plc o t≠0):z1b [z2i o,.int t]=some (.val (z2i (upO o t))):=by
 refine y3U rfl ?_
 have ti:=z9x ht
 have lt:=y5I ht
 obtain⟨p,hpp⟩:∃p,plc o t=p+1:=⟨plc o t - 1,by omega⟩
 have up:upO o t=o.take p++[t,o[p]'(by omega)]++o.drop (p+2):=by
  unfold upO
  rw[hpp,Nat.add_sub_cancel,ac (by omega)]
  rfl
 rw[hpp]at ti lt
 have d0:eqD (.int ((p+1:Nat):Int)) (.int 0)=some (.bl false):=by rw[y5D,decide_eq_false (by omega)]
 have s1:y4g (.int ((p+1:Nat):Int)) (.int 1)=some (.int (p:Int)):=by rw[y4b];congr 2;omega
 have a1:z8o (.int ((p+1:Nat):Int)) (.int 1)=some (.int ((p+2:Nat):Int)):=by rw[y1n];congr 2
 have c1:x3w (some (z2i o)) (some none) (some (some (p:Int)))=some (z2i (o.take p)):=by
  show some (D.tup (z5k (o.map D.int) none (some (p:Int))))=_
  rw[y1h (by rw[ah];omega),←dg]
  rfl
 have c2:x3w (some (z2i o)) (some (some ((p+2:Nat):Int))) (some none)=some (z2i (o.drop (p+2))):=by
  show some (D.tup (z5k (o.map D.int) (some ((p+2:Nat):Int)) none))=_
  rw[y2y,←dh]
  rfl
 have i1:=ix_ordN (o:=o) (k:=p) (by omega)
 have t2:D.tup [.int t,.int (o[p]'(by omega))]=z2i [t,o[p]'(by omega)]:=rfl
 have k1:=y5q (x:=o.take p) (y:=[t,o[p]'(by omega)]) (by simp;omega)
 have k2:=y5q (x:=o.take p++[t,o[p]'(by omega)]) (y:=o.drop (p+2)) (by simp;omega)
 have im:=y2l (d:=z2i (o.take p++[t,o[p]'(by omega)]++o.drop (p+2))) y4e
 rw[up]
 simp_all! only[z2b,ti,d0,s1,a1,c1,c2,i1,t2,k1,k2,im,z0d]
theorem z8b{o:List Int}{t:Int}(ht:t∈o)(hp:plc o t=0):z1b [z2i o,.int t]=some (.exc 3):=by
 refine y2L rfl ?_
 have ti:=z9x ht
 rw[hp]at ti
 have d0:eqD (.int ((0:Nat):Int)) (.int 0)=some (.bl true):=by rw[y5D];rfl
 simp_all! only[z2b,ti,d0,z0d]
 exact⟨_,rfl⟩
theorem at2_set{T:List (List Bool)}{i j a b:Nat}{v:Bool}(hi:i<T.length)(hj:j<T[i].length):at2 (T.set i (T[i].set j v)) a b=if a=i∧b=j then v else at2 T a b:=by
 unfold at2
 by_cases h:a=i
 ·subst h
  simp only[aZ,cZ hi,cA,ac hi]
  by_cases h2:b=j
  ·subst h2
   simp[hj]
  ·simp[h2,aV (Ne.symm h2)]
 ·simp only[aZ,aV (Ne.symm h)]
  simp[h]
theorem y1l{r0:List Bool}:∀(r:List Bool) (k:Nat),z1d (two (z4a (z0q (z0c 2)) (z0c 1) [some (z3Q r0)])) (z0y k (r.map bD))=some ((z4I k r).map nD)
 |[],_=>rfl
 |b::r,k=>by
  have ih:=y1l (r0:=r0) r (k+1)
  rw[aC]
  show z1d _ (.tup [.int (k:Nat),bD b]::z0y (k+1) (r.map bD))=_
  unfold z1d
  rw[ih]
  have e:two (z4a (z0q (z0c 2)) (z0c 1) [some (z3Q r0)]) (.tup [.int (k:Nat),bD b])=some (if b=true then some (nD k)else none):=by
   show z4a _ _ _ _ _=_
   unfold z4a
   have e1:z0q (z0c 2) ([some (z3Q r0)]++[some (.int (k:Nat)),some (bD b)])=some b:=rfl
   rw[e1]
   cases b <;> rfl
  have t:z4I k (b::r)=if b=true then k::z4I (k+1) r else z4I (k+1) r:=rfl
  rw[e,t]
  cases b <;> rfl
theorem y1x(r:List Bool)(hl:r.length≤1000):z1r [z3Q r]=some (thD ((ad r.length).filter fun i=>r.getD i false)):=by
 refine z0s rfl ?_
 have e:z4I 0 r=(ad r.length).filter fun i=>r.getD i false:=by
  rw[y7s,ff]
  rfl
 have h0:y6Q (z3Q r)=some (z0y 0 (r.map bD)):=rfl
 have hl':(z0y 0 (r.map bD)).length≤1000000:=by rw[z7C,ah];omega
 have fl:=z1o (y2u (z4I 0 r))
 simp! only[z3G,h0,z2j hl',y1l,fl,z0d]
 rw[e]
 rfl
theorem z5u{n:Nat}{T:List (List Bool)}(sq:Sq n T)(hn:n≤1000){k:Nat}(hk:k<n):z0I [z0G T,.int (k:Int)]=some (thD ((ad n).filter fun j=>at2 T k j)):=by
 refine z0s rfl ?_
 have hk':k<T.length:=by rw[sq.1];exact hk
 have p:=y1x (T.getD k []) (by rw[sq.len hk];omega)
 rw[sq.len hk]at p
 simp! only[z4L,z9i hk',p,z0d]
 rfl
theorem z4Y{m:Nat}{T:List (List Bool)}(sq:Sq m T){a:Nat}(ha:a<m){th:List Nat}(hl:th.length≤1000)(h:∀x∈th,x<m):z0Y [z0G T,.int (a:Int),thD th]=some (.bl (th.all fun j=>at2 T a j)):=by
 refine z0s rfl ?_
 simp! only[z4X,z4E]
 rw[z5l (fun j=>bD (at2 T a j)) hl fun j hj=>by simp! only[nD,ix2 sq ha (h j hj),bD]]
 have e:(th.map fun j=>bD (at2 T a j))=(th.map fun j=>at2 T a j).map bD:=by rw[aJ];rfl
 have e2:((th.map fun j=>at2 T a j).all fun b=>b)=th.all fun j=>at2 T a j:=by rw[eQ];rfl
 simp! only[e,y8y,e2,z0d]
def ky(n:Nat):Key:=.inl (n:Int)
def stD(ks:List Nat)(vs:List Nat):D:=.dct (ks.map ky) (vs.map nD)
theorem y9D{ks vs:List Nat}{y:Nat}:inK (.int (y:Int)) (stD ks vs)=some (ks.contains y):=by
 show some (y1q (ks.map ky) (.inl (y:Int)))=_
 congr 1
 unfold y1q
 rw[cK,cT]
 congr 1
 funext z
 show decide ((Sum.inl (z:Int):Key)=Sum.inl (y:Int))=(y==z)
 by_cases h:z=y
 ·subst h;simp
 ·have h1:decide ((Sum.inl (z:Int):Key)=Sum.inl (y:Int))=false:=decide_eq_false fun e=>h (by cases e;rfl)
  have h2:(y==z)=false:=by rw[beq_eq_false_iff_ne];exact fun e=>h e.symm
  rw[h1,h2]
theorem st_put{ks vs:List Nat}{x y:Nat}(h:y∉ks)(hl:ks.length≤1000000):y7P (some (stD ks vs)) (some (.int (y:Int))) (some (.int (x:Int)))=some (stD (ks++[y]) (vs++[x])):=by
 show(if z1t (vs.map nD)=true∧(ks.map ky).length<sizeLine then _ else _)=_
 rw[if_pos ⟨y2u vs,by rw[ah,PySem.sizeLine_eq];omega⟩]
 have hh:y1q (ks.map ky) (.inl (y:Int))=false:=by
  have:=y9D (ks:=ks) (vs:=vs) (y:=y)
  have hc:ks.contains y=false:=by rw[←Bool.not_eq_true,aR];exact h
  rw[hc]at this
  exact Option.some.inj this
 unfold y0Y y1D stD
 rw[hh,if_neg ar,if_neg ar,aF,aF]
 rfl
inductive Rch(T:List (List Bool))(m a:Nat):Nat->Prop
 |here:Rch T m a a
 |step {x y:Nat}:Rch T m a x->y<m->at2 T x y=true->Rch T m a y
structure Stp(T:List (List Bool))(m a:Nat)(ks:List Nat):Prop where
 nd:ks.Nodup
 lt:∀x∈ks,x<m
 on:a∈ks
 rc:∀x∈ks,Rch T m a x
def Cld(T:List (List Bool))(m:Nat)(ks:List Nat)(x:Nat):Prop:=∀y<m,at2 T x y=true->y∈ks
theorem Stp.add{T:List (List Bool)}{m a x y:Nat}{ks:List Nat}(P:Stp T m a ks)(hx:x∈ks)(hy:y<m)(h:at2 T x y=true)(hn:y∉ks):Stp T m a (ks++[y]):=
 ⟨bP.mpr ⟨P.nd,by simp,fun u hu v hv z=>by rw[aq]at hv;exact hn (hv ▸ z ▸ hu)⟩,fun z hz=>by
  rcases au.mp hz with q | q
  ·exact P.lt z q
  ·rw[aq.mp q];exact hy,au.mpr (.inl P.on),fun z hz=>by
  rcases au.mp hz with q | q
  ·exact P.rc z q
  ·rw[aq.mp q];exact .step (P.rc x hx) hy h⟩
theorem Stp.len{T:List (List Bool)}{m a:Nat}{ks:List Nat}(P:Stp T m a ks):ks.length≤m:=by
 have:=List.Nodup.length_le_of_subset (l₂:=ad m) P.nd fun x hx=>ak.mpr (P.lt x hx)
 simpa using this
theorem x2q{m:Nat}{T:List (List Bool)}(sq:Sq m T)(hm:m≤90){a:Nat}(ha:a<m):hol (z2N [z0G T,.int (a:Int)]) fun d=>∃ks vs,d=stD ks vs∧Stp T m a ks∧∀x∈ks,Cld T m ks x:=by
 refine z6s rfl ?_
 have s0:D.dct [.inl (a:Int)] [.int (a:Int)]=stD [a] [a]:=rfl
 have f0:z6k (some [.int (a:Int)])=some [.int (a:Int)]:=rfl
 simp! only[z4o,s0,f0,th_one]
 refine z0z (I:=fun s=>∃ks vs o3 o4 o5 o6,s=[some (.sh (z0G T)),some (.sh (.int (a:Int))),some (.ow (stD ks vs)),o3,o4,o5,o6]∧Stp T m a ks∧∀x∈ks,Cld T m ks x) ?_ ?_
 ·refine z3U (fun n s=>∃ks vs E o5 o6,s=[some (.sh (z0G T)),some (.sh (.int (a:Int))),some (.ow (stD ks vs)),some (.ow (thD E)),none,o5,o6]∧Stp T m a ks∧(∀x∈E,x∈ks)∧(∀x∈ks,x∉E->Cld T m ks x)∧(E≠[]->m+1≤ks.length+n)) (n:=m) ⟨[a],[a],[a],_,_,rfl,⟨by simp,fun x hx=>by rw[aq.mp hx];exact ha,by simp,fun x hx=>by rw[aq.mp hx];exact .here⟩,fun x hx=>hx,fun x hx hn=>absurd hx hn,fun _=>by simp;omega⟩ ?_ (by omega)
  rintro n s ⟨ks,vs,E,o5,o6,rfl,P,hE,hC,hn⟩
  refine⟨!E.isEmpty,by simp! only[tru_th],fun hz=>?_,fun hz=>?_⟩
  ·have hz:E=[]:=by simpa using hz
   exact⟨_,rfl,ks,vs,_,_,_,_,rfl,P,fun x hx=>hC x hx (by rw[hz];simp)⟩
  ·have hz:E≠[]:=by simpa using hz
   have hn:=hn hz
   have hl:=P.len
   refine⟨n - 1,by omega,?_⟩
   simp! only[z6W,th_nil,z4E]
   refine z0z (I:=fun s=>∃F ws o5 o6,s=[some (.sh (z0G T)),some (.sh (.int (a:Int))),some (.ow (stD (ks++F) ws)),some (.sh (thD E)),some (.ow (thD F)),o5,o6]∧Stp T m a (ks++F)∧∀x∈E,Cld T m (ks++F) x) ?_ ?_
   ·refine z3j (fun pre s=>∃F ws o5 o6,s=[some (.sh (z0G T)),some (.sh (.int (a:Int))),some (.ow (stD (ks++F) ws)),some (.sh (thD E)),some (.ow (thD F)),o5,o6]∧Stp T m a (ks++F)∧∀x∈pre,Cld T m (ks++F) x) ⟨[],vs,_,_,by rw[aL],by rw[aL];exact P,fun x hx=>nomatch hx⟩ ?_ fun s z=>⟨s,rfl,z⟩
    rintro pre x post e s ⟨F,ws,o5,o6,rfl,P1,C1⟩
    have hxE:x∈E:=by rw[e];simp
    have hxk:=hE x hxE
    have hxm:=P.lt x hxk
    simp! only[nD,z5u sq (show m≤1000 by omega) hxm,z4E]
    refine z3j (fun q s=>∃F ws o6,s=[some (.sh (z0G T)),some (.sh (.int (a:Int))),some (.ow (stD (ks++F) ws)),some (.sh (thD E)),some (.ow (thD F)),some (.sh (.int (x:Int))),o6]∧Stp T m a (ks++F)∧(∀x∈pre,Cld T m (ks++F) x)∧∀y∈q,y∈ks++F) ⟨F,ws,_,rfl,P1,C1,fun y hy=>nomatch hy⟩ ?_ ?_
    ·rintro q y r e2 s ⟨F,ws,o6,rfl,P2,C2,Q2⟩
     have hy:y∈(ad m).filter fun j=>at2 T x j:=by rw[e2];simp
     have hy:=ag.mp hy
     have hym:=ak.mp hy.1
     have hl2:=P2.len
     cases hc:(ks++F).contains y with
     |true=>
      simp! only[nD,y9D,hc,bx,Bool.not_true,z0d]
      refine⟨F,ws,_,rfl,P2,C2,fun z hz=>?_⟩
      rcases au.mp hz with z1 | z1
      ·exact Q2 z z1
      ·rw[aq.mp z1];exact aR.mp hc
     |false=>
      have hny:y∉ks++F:=fun z=>by rw[aR.mpr z]at hc;cases hc
      have im:y6l (some [.int (y:Int)])=some [.int (y:Int)]:=y0i rfl
      have pt:=st_put (vs:=ws) (x:=x) hny (by omega)
      have ap:=app_thV (th:=F) (k:=y) (by rw[aD]at hl2;omega)
      have P3:=P2.add (au.mpr (.inl hxk)) hym hy.2 hny
      rw[aT]at P3 pt
      have sub:∀z,z∈ks++F->z∈ks++(F++[y]):=fun z hz=>by rw[←aT];exact au.mpr (.inl hz)
      simp! only[nD,y9D,hc,bx,Bool.not_false,pt,im,ap,z0d]
      refine⟨F++[y],_,_,rfl,P3,fun z hz w hw h=>sub w (C2 z hz w hw h),fun z hz=>?_⟩
      rcases au.mp hz with z1 | z1
      ·exact sub z (Q2 z z1)
      ·rw[aq.mp z1];simp
    ·rintro s ⟨F,ws,o6,rfl,P2,C2,Q2⟩
     refine⟨F,ws,_,_,rfl,P2,fun z hz=>?_⟩
     rcases au.mp hz with z1 | z1
     ·exact C2 z z1
     ·rw[aq.mp z1]
      exact fun y hy h=>Q2 y (ag.mpr ⟨ak.mpr hy,h⟩)
   ·rintro s ⟨F,ws,o5,o6,rfl,P1,C1⟩
    simp! only[z0d]
    refine⟨ks++F,ws,F,_,_,rfl,P1,fun x hx=>au.mpr (.inr hx),fun x hx hnx=>?_,fun hF=>?_⟩
    ·have hxk:x∈ks:=by
      rcases au.mp hx with z | z
      ·exact z
      ·exact absurd z hnx
     by_cases hxE:x∈E
     ·exact C1 x hxE
     ·exact fun y hy h=>au.mpr (.inl (hC x hxk hxE y hy h))
    ·have:0<F.length:=cb.mpr hF
     rw[aD]
     omega
 ·rintro s ⟨ks,vs,o3,o4,o5,o6,rfl,P,C⟩
  simp! only[z0d]
  exact⟨_,rfl,ks,vs,rfl,P,C⟩
open Classical in
noncomputable def rcL(T:List (List Bool))(m a:Nat):List Nat:=(ad m).filter fun x=>decide (Rch T m a x)
theorem rcL_mem{T:List (List Bool)}{m a x:Nat}:x∈rcL T m a↔x<m∧Rch T m a x:=by
 unfold rcL
 rw[ag,ak]
 exact and_congr_right fun _=>@decide_eq_true_iff _ (Classical.propDecidable _)
theorem x0n:∀ks:List Nat,z5y (ks.map ky)=some (ks.map fun n=>((n:Nat):Int))
 |[]=>rfl
 |k::ks=>by
  show(z5y (ks.map ky)).map (fun ns=>(k:Int)::ns)=_
  rw[x0n ks]
  rfl
theorem y6R{m:Nat}{T:List (List Bool)}(sq:Sq m T)(hm:m≤60){a:Nat}(ha:a<m):z4s [z0G T,.int (a:Int)]=some (thD (rcL T m a)):=by
 refine z0s rfl ?_
 obtain⟨d,e,ks,vs,rfl,P,C⟩:=x2q sq (by omega) ha
 have hl:=P.len
 have hin:∀x,x∈ks↔x∈rcL T m a:=fun x=>by
  rw[rcL_mem]
  refine⟨fun h=>⟨P.lt x h,P.rc x h⟩,fun h=>?_⟩
  have:∀y,Rch T m a y->y∈ks:=fun y r=>by
   induction r with
   |here=>exact P.on
   |step r1 hy h ih=>exact C _ ih _ hy h
  exact this x h.2
 have nd2:(rcL T m a).Nodup:=List.Pairwise.filter _ dH
 have pm:((rcL T m a).map fun n=>((n:Nat):Int)).Perm (ks.map fun n=>((n:Nat):Int)):=((cN nd2 P.nd).mpr fun x=>(hin x).symm).map _
 have so:((rcL T m a).map fun n=>((n:Nat):Int)).Pairwise (· ≤ ·):=by
  rw[List.pairwise_map]
  refine List.Pairwise.imp ?_ (List.Pairwise.filter _ List.pairwise_lt_range)
  intro x y h
  omega
 have es:=x1o pm so
 have st:y2h [stD ks vs]=some ((rcL T m a).map nD):=by
  show((z5y (ks.map ky)).bind fun ns=>if ns.length<64 then some ((x3v ns).map D.int)else none)=_
  rw[x0n,aj,if_pos (by rw[ah];omega),←es,aJ]
  rfl
 simp! only[z7W,e,st,z3d,y1j,z0d]
noncomputable def y0O(T:List (List Bool))(m:Nat):List Nat:=(ad m).map fun a=>(rcL T m a).length
def plL(cs:List Nat)(c:Nat):List Nat:=(cs.zipIdx.filter fun z=>decide ((z.1:Int)=(c:Int))).map fun z=>z.2
theorem plL_mem{cs:List Nat}{c i:Nat}:i∈plL cs c↔cs[i]? = some c:=by
 unfold plL
 rw[aP]
 constructor
 ·rintro⟨z,hz,rfl⟩
  obtain⟨h1,h2⟩:=ag.mp hz
  have h2:z.1=c:=by have:=of_decide_eq_true h2;omega
  have:=dR.mp h1
  rw[this,h2]
 ·intro h
  exact⟨(c,i),ag.mpr ⟨dR.mpr h,decide_eq_true rfl⟩,rfl⟩
theorem y6E{cs:List Nat}(hl:cs.length≤1000)(c:Nat):z1K [thD cs,.int (c:Int)]=some (thD (plL cs c)):=by
 refine z0s rfl ?_
 have cx:z2c (some (z0y 0 (cs.map nD))) (two (z4a (z0H (d2 eqD (z0c 3) (z0c 1))) (z0c 2) [some (thD cs),some (.int (c:Int))]))=some ((plL cs c).map nD):=by
  rw[x4L (enc:=nD) (fun _ x=>decide ((x:Int)=(c:Int))) (fun i _=>nD i) hl (fun i h=>by simp! only[nD]) fun i h _=>by simp! only[];rfl]
  unfold plL
  rw[aJ]
  rfl
 simp! only[z3J,x1y,cx,z3d,y1j,z0d]
def dnL(m:Nat):List Nat:=(ad m).map fun i=>m - i
noncomputable def rgL(T:List (List Bool))(m:Nat):List (List Nat):=((dnL m).filter fun c=>(y0O T m).contains c).map fun c=>plL (y0O T m) c
theorem eo_rngN{i j c:Int}(h:c = -1∧-(2 ^ 61)≤i∧i<2 ^ 61∧-(2 ^ 61)≤j∧j<2 ^ 61):rngN (some (.int i)) (some (.int j)) (some (.int c))=some (x0s i (-1) (i - j).toNat):=if_pos h
theorem x2c{m:Nat}{T:List (List Bool)}(sq:Sq m T)(hm:m≤60):z9Z [z0G T]=some (.lst ((rgL T m).map thD)):=by
 refine z0s rfl ?_
 have hcl:(y0O T m).length=m:=by simp[y0O]
 have c1:z2c (some (z2h 0 m)) (z1N z3p (z0k z2t [z0k z4s [z0c 0,z0c 2]]) [some (z0G T),none])=some ((y0O T m).map nD):=by
  rw[z1l,z5l (enc:=nD) (xs:=ad m) (fun a=>nD (rcL T m a).length) (by simp;omega) fun a ha=>by simp! only[nD,y6R sq hm (ak.mp ha),y2o]]
  unfold y0O
  rw[aJ]
  rfl
 have rn:rngN (some (.int (m:Int))) (some (.int 0)) (some (.int (-1)))=some ((dnL m).map nD):=by
  have hz:((m:Int) - 0).toNat=m:=by omega
  have e1:rngN (some (.int (m:Int))) (some (.int 0)) (some (.int (-1)))=some (x0s (m:Int) (-1) ((m:Int) - 0).toNat):=eo_rngN ⟨rfl,by omega,by omega,by omega,by omega⟩
  have e2:x0s (m:Int) (-1) m=(dnL m).map nD:=by
   unfold x0s dnL
   rw[aJ]
   refine bp fun i hi=>?_
   have:=ak.mp hi
   have e:(m:Int)+(i:Int)*(-1)=((m - i:Nat):Int):=by omega
   exact congrArg D.int e
  rw[e1,hz,e2]
 have c2:z2c (some ((dnL m).map nD)) (z1N (z0H (d2 inD (z0c 2) (z0c 1))) (z0k z1K [z0c 1,z0c 2]) [some (z0G T),some (thD (y0O T m))])=some ((rgL T m).map thD):=by
  rw[z8C (enc:=nD) (xs:=dnL m) (fun c=>(y0O T m).contains c) (fun c=>thD (plL (y0O T m) c)) (by simp[dnL];omega) (fun c hc=>by simp! only[nD,x0e]) fun c hc _=>by simp! only[nD,y6E (show(y0O T m).length≤1000 by omega)]]
  unfold rgL
  rw[aJ]
  rfl
 simp! only[y3P,z2C,sq.1,z1J (show m≤1000000 by omega),c1,z3d,y1j,rn,c2,z0d]
theorem y6D{m:Nat}{T:List (List Bool)}(sq:Sq m T)(hm:m≤60)(h0:0<m)(h:m∈y0O T m):z1U [z0G T]=some (thD (plL (y0O T m) m)):=by
 refine z0s rfl ?_
 have e:∃r,rgL T m=plL (y0O T m) m::r:=by
  unfold rgL dnL
  obtain⟨n,rfl⟩:∃n,m=n+1:=⟨m - 1,by omega⟩
  rw[cr,aC,bh]
  have hc:(y0O T (n+1)).contains (n+1 - 0)=true:=aR.mpr h
  rw[hc,if_pos rfl,aC]
  exact⟨_,rfl⟩
 obtain⟨r,hr⟩:=e
 have re:=x2c sq hm
 rw[hr,aC]at re
 have ix:atI (thD (plL (y0O T m) m)::r.map thD) 0=some (thD (plL (y0O T m) m)):=z1u (j:=0) rfl
 simp! only[z5S,re,ix,z0d]
def y6d(T:List (List Bool))(m a b:Nat):Bool:=at2 T a b&&((ad m).filter fun j=>at2 T b j).all fun j=>at2 T a j
theorem y8L{m:Nat}{T:List (List Bool)}(sq:Sq m T)(hm:m≤1000){a b:Nat}(ha:a<m)(hb:b<m):z6U [z0G T,.int (a:Int),.int (b:Int)]=some (.bl (y6d T m a b)):=by
 refine z0s rfl ?_
 have hl:((ad m).filter fun j=>at2 T b j).length≤1000:=by
  have:=aX (fun j=>at2 T b j) (ad m)
  rw[aW]at this
  omega
 have b1:=z5u sq hm hb
 have b2:=z4Y sq ha (th:=(ad m).filter fun j=>at2 T b j) hl fun x hx=>ak.mp (ag.mp hx).1
 simp! only[z9W,ix2 sq ha hb,b1,b2,z0d]
 rfl
def y6X(T:List (List Bool))(m a:Nat):Bool:=!(ad m).any fun b=>y6d T m b a
def y4A(T:List (List Bool))(m:Nat):List Nat:=(ad m).filter fun a=>y6X T m a
theorem y1t{m:Nat}{T:List (List Bool)}(sq:Sq m T)(hm:m≤1000){a:Nat}(ha:a<m):z2P [z0G T,.int (a:Int)]=some (.bl ((ad m).any fun b=>y6d T m b a)):=by
 refine z0s rfl ?_
 have hr:x2S (some (.int (m:Int)))=some (z2h 0 m):=by rw[z8a (by omega)];rfl
 simp! only[z3Y,z2C,sq.1,hr,z1l]
 rw[z5l (fun b=>bD (y6d T m b a)) (by simp;omega) fun j hj=>by simp! only[nD,y8L sq hm (ak.mp hj) ha,bD]]
 have e:((ad m).map fun b=>bD (y6d T m b a))=((ad m).map fun b=>y6d T m b a).map bD:=by rw[aJ];rfl
 have e2:(((ad m).map fun b=>y6d T m b a).any fun b=>b)=(ad m).any fun b=>y6d T m b a:=by rw[cK];rfl
 simp! only[e,ea_any,e2,z0d]
theorem z6F{m:Nat}{T:List (List Bool)}(sq:Sq m T)(hm:m≤1000):z0X [z0G T]=some (thD (y4A T m)):=by
 refine z0s rfl ?_
 have hr:x2S (some (.int (m:Int)))=some (z2h 0 m):=by rw[z8a (by omega)];rfl
 simp! only[z4O,z2C,sq.1,hr,z1l]
 rw[z8C (fun a=>y6X T m a) nD (by simp;omega) (fun j hj=>by simp! only[nD,y1t sq hm (ak.mp hj)];rfl) fun j hj _=>by simp! only[]]
 have f1:=z1o (y2u (y4A T m))
 unfold y4A at f1
 simp! only[f1,z0d]
 rfl
theorem unc_all{m:Nat}{T:List (List Bool)}(F:Full m T){a:Nat}(ha:a<m)(h:y6X T m a=true):∀y<m,Rch T m a y:=fun y hy=>by
 by_cases e:y=a
 ·rw[e];exact .here
 ·cases h1:at2 T a y with
  |true=>exact .step .here hy h1
  |false=>
   have h2:at2 T y a=true:=by rw[F.two y hy a ha e,h1];rfl
   have h:((ad m).any fun b=>y6d T m b a)=false:=by simpa[y6X] using h
   rw[b6]at h
   have h3:=h y (ak.mpr hy)
   unfold y6d at h3
   rw[h2,eK]at h3
   have h3:(((ad m).filter fun j=>at2 T a j).all fun j=>at2 T y j)=false:=by simpa using h3
   rw[List.all_eq_false]at h3
   obtain⟨j,hj,hn⟩:=h3
   have hj:=ag.mp hj
   have hjm:=ak.mp hj.1
   have hn:at2 T y j=false:=by simpa using hn
   have hjy:j≠y:=fun z=>by rw[z,h1]at hj;cases hj.2
   have h4:at2 T j y=true:=by rw[F.two j hjm y hy hjy,hn];rfl
   exact .step (.step .here hjm hj.2) hy h4
theorem cov_iff{m:Nat}{T:List (List Bool)}{a b:Nat}:y6d T m a b=true↔at2 T a b=true∧∀j<m,at2 T b j=true->at2 T a j=true:=by
 unfold y6d
 rw[aE,aI]
 refine and_congr_right fun _=>⟨fun h j hj hb=>h j (ag.mpr ⟨ak.mpr hj,hb⟩),fun h j hj=>?_⟩
 have hj:=ag.mp hj
 exact h j (ak.mp hj.1) hj.2
theorem y7Q{m:Nat}{T:List (List Bool)}(F:Full m T){a:Nat}(ha:a<m)(h:y6X T m a=true):(y0O T m)[a]? = some m:=by
 have e:rcL T m a=ad m:=by
  unfold rcL
  exact bF.mpr fun x hx=>@decide_eq_true _ (Classical.propDecidable _) (unc_all F ha h x (ak.mp hx))
 unfold y0O
 rw[ay,cI ha]
 show some (rcL T m a).length=_
 rw[e,aW]
def chB(T:List (List Bool)):List Nat->Bool
 |[]=>true
 |a::r=>(r.all fun j=>at2 T a j)&&chB T r
def z5F(T:List (List Bool))(th:List Nat):Bool:=!th.isEmpty&&chB T th
theorem y9h{T:List (List Bool)}:∀{th:List Nat} {k:Nat} {pre:List Nat},pre.length=k->((th.zipIdx k).all fun z=>((pre++th).drop (z.2+1)).all fun j=>at2 T z.1 j)=chB T th
 |[],_,_,_=>rfl
 |a::r,k,pre,h=>by
  have ih:=y9h (T:=T) (th:=r) (k:=k+1) (pre:=pre++[a]) (by simp[h])
  have e:pre++[a]++r=pre++a::r:=by simp
  rw[e]at ih
  rw[List.zipIdx_cons,List.all_cons,ih]
  show((((pre++a::r).drop (k+1)).all fun j=>at2 T a j)&&_)=_
  have e2:(pre++a::r).drop (k+1)=r:=by rw[←h];simp
  rw[e2]
  rfl
theorem y6M{m:Nat}{T:List (List Bool)}(sq:Sq m T){th:List Nat}(hl:th.length≤1000)(h:∀x∈th,x<m):z4v [z0G T,thD th]=some (.bl (z5F T th)):=by
 refine z0s rfl ?_
 by_cases h0:th=[]
 ·subst h0
  have d0:decide ((([]:List Nat).length:Int)=0)=true:=rfl
  simp! only[z4u,y2o,d0,z0d]
  rfl
 ·have d0:decide ((th.length:Int)=0)=false:=decide_eq_false fun e=>h0 (aS.mp (by omega))
  simp! only[z4u,y2o,d0,x1y]
  rw[cx2_all (fun k a=>bD ((th.drop (k+1)).all fun j=>at2 T a j)) hl fun i hi=>by
   have c:=z4Y sq (h th[i] (bT hi)) (th:=th.drop (i+1)) (by simp;omega) fun x hx=>h x (List.mem_of_mem_drop hx)
   have tl:∀o:List Nat,D.lst (o.map nD)=thD o:=fun _=>rfl
   have c:z0Y [z0G T,nD th[i],thD (th.drop (i+1))]=_:=c
   simp! only[z5p,tl,c]
   rfl]
  have e:(th.zipIdx.map fun z=>bD ((th.drop (z.2+1)).all fun j=>at2 T z.1 j))=(th.zipIdx.map fun z=>(th.drop (z.2+1)).all fun j=>at2 T z.1 j).map bD:=by rw[aJ];rfl
  have e2:((th.zipIdx.map fun z=>(th.drop (z.2+1)).all fun j=>at2 T z.1 j).all fun b=>b)=z5F T th:=by
   unfold z5F
   rw[eQ,←y9h (T:=T) (th:=th) (k:=0) (pre:=[]) rfl]
   have:(!th.isEmpty)=true:=by simp[h0]
   rw[this]
   rfl
  simp! only[e,y8y,e2,z0d]
def btL(T:List (List Bool))(m:Nat)(th:List Nat):List Nat:=(ad m).filter fun a=>th.all fun j=>at2 T a j
theorem z8L{m:Nat}{T:List (List Bool)}(sq:Sq m T)(hm:m≤1000){th:List Nat}(hl:th.length≤1000)(h:∀x∈th,x<m):z2E [z0G T,thD th]=some (thD (btL T m th)):=by
 refine z0s rfl ?_
 simp! only[z7h,z2C,sq.1,z1J (show m≤1000000 by omega),z1l]
 rw[z8C (fun a=>th.all fun j=>at2 T a j) nD (by simp;omega) (fun a ha=>by
  have c:=z4Y sq (ak.mp ha) hl h
  simp! only[nD,c]) fun x hx _=>by simp! only[]]
 simp! only[z3d,z0d]
 rfl
theorem y7f{m:Nat}{T:List (List Bool)}(sq:Sq m T)(hm:m≤1000){th:List Nat}(hl:th.length≤1000)(h:∀x∈th,x<m):z5n [z0G T,thD th]=some (.bl (z5F T th&&decide (((btL T m th).length:Int)=0))):=by
 refine z0s rfl ?_
 simp! only[y0g,y6M sq hl h,z8L sq hm hl h,y2o,z0d]
def z5X(T:List (List Bool)):Nat->List Nat->List Nat->List (List Nat)
 |0,_,_=>[]
 |_+1,c,[]=>[c]
 |n+1,c,x::f=>((x::f).map fun y=>z5X T n (c++[y]) ((x::f).filter fun z=>at2 T y z)).flatten
def fac:Nat->Nat
 |0=>1
 |n+1=>(n+1)*fac n
theorem x3q(n:Nat):fac n≤fac (n+1):=by
 show fac n≤(n+1)*fac n
 exact Nat.le_mul_of_pos_left _ (by omega)
theorem z6R{a b:Nat}(h:a≤b):fac a≤fac b:=by
 induction h with
 |refl=>exact am _
 |step _ ih=>exact aG ih (x3q _)
theorem y3W{α:Type}{B:Nat}:∀{L:List (List α)},(∀l∈L,l.length≤B)->L.flatten.length≤L.length*B
 |[],_=>bu _
 |l::L,h=>by
  have ih:=y3W (L:=L) fun x hx=>h x (ae _ hx)
  have h1:=h l af
  rw[bB,aD,aY,Nat.succ_mul]
  omega
theorem y0m{T:List (List Bool)}{f:List Nat}{y:Nat}(hy:y∈f)(own:at2 T y y=false):(f.filter fun z=>at2 T y z).length<f.length:=by
 rw[List.length_filter_lt_length_iff_exists]
 exact⟨y,hy,by rw[own];exact ar⟩
theorem z7b{T:List (List Bool)}:∀{n:Nat} {c f:List Nat},(∀x∈f,at2 T x x=false)->(z5X T n c f).length≤fac f.length
 |0,_,f,_=>bu _
 |_+1,c,[],_=>am _
 |n+1,c,x::f,own=>by
  have:∀l∈(x::f).map fun y=>z5X T n (c++[y]) ((x::f).filter fun z=>at2 T y z),l.length≤fac f.length:=fun l hl=>by
   obtain⟨y,hy,rfl⟩:=aP.mp hl
   refine aG (z7b fun z hz=>own z (ag.mp hz).1) (z6R ?_)
   have:=y0m hy (own y hy)
   rw[aY]at this
   omega
  have:=y3W this
  rw[ah]at this
  exact this
theorem y4O{m:Nat}{T:List (List Bool)}(sq:Sq m T)(own:∀i<m,at2 T i i=false)(hm:m≤8):∀{n:Nat} {c f:List Nat},f.length<n->f.length≤8->c.length+f.length≤100->(∀x∈f,x<m)->z1j n [z0G T,thD c,thD f]=some (.lst ((z5X T n c f).map thD))
 |0,c,f,h,_,_,_=>absurd h (by omega)
 |n+1,c,[],h,h8,hc,hf=>by
  refine y5d rfl ?_
  have tr:z7p (thD [])=some false:=rfl
  simp_all! only[z2a,tr,z0d]
  rfl
 |n+1,c,x::f,h,h8,hc,hf=>by
  refine y5d rfl ?_
  obtain⟨F,hF⟩:∃F,F=x::f:=⟨_,rfl⟩
  have tr:z7p (thD F)=some true:=by rw[hF];rfl
  have e0:z5X T (n+1) c (x::f)=(F.map fun y=>z5X T n (c++[y]) (F.filter fun z=>at2 T y z)).flatten:=by rw[hF];rfl
  rw[e0]
  rw[←hF]at h h8 hc hf ⊢
  have nl:D.lst [] = .lst (([]:List (List Nat)).map thD):=rfl
  have ownF:∀x∈F,at2 T x x=false:=fun x hx=>own x (hf x hx)
  simp_all! only[z2a,tr,z6W,z4E]
  rw[nl]
  refine z0z (I:=fun s=>∃o1 o4,s=[some (.sh (z0G T)),o1,some (.sh (thD F)),some (.ow (.lst ((F.map fun y=>z5X T n (c++[y]) (F.filter fun z=>at2 T y z)).flatten.map thD))),o4]) ?_ ?_
  ·refine z3j (enc:=nD) (fun pre s=>∃o4,s=[some (.sh (z0G T)),some (.ow (thD c)),some (.sh (thD F)),some (.ow (.lst ((pre.map fun y=>z5X T n (c++[y]) (F.filter fun z=>at2 T y z)).flatten.map thD))),o4]) ⟨_,rfl⟩ ?_ fun s ⟨o4,e⟩=>⟨s,rfl,_,_,e⟩
   rintro pre y post e s ⟨o4,rfl⟩
   have hy:y∈F:=by rw[e];simp
   have t1:D.lst [.int (y:Int)]=thD [y]:=rfl
   have ct:=x5k (a:=c) (b:=[y]) (by simp;omega)
   have cx:z2c (some (F.map nD)) (z1N (z0q (d2 ixD (d2 ixD (z0c 0) (z0c 4)) (z0c 5))) (z0c 5) [some (z0G T),some (thD c),some (thD F),some (.lst ((pre.map fun y=>z5X T n (c++[y]) (F.filter fun z=>at2 T y z)).flatten.map thD)),some (.int (y:Int))])=some ((F.filter fun z=>at2 T y z).map nD):=
    z8C (fun z=>at2 T y z) nD (by omega) (fun z hz=>by
     simp! only[nD,ix2 sq (hf y hy) (hf z hz)]) fun z _ _=>by simp! only[]
   have fl:=y0m hy (ownF y hy)
   have ih:=y4O sq own hm (n:=n) (c:=c++[y]) (f:=F.filter fun z=>at2 T y z) (by omega) (by omega) (by simp;omega) fun z hz=>hf z (ag.mp hz).1
   have l1:(pre.map fun y=>z5X T n (c++[y]) (F.filter fun z=>at2 T y z)).flatten.length≤40320*8:=by
    refine aG (y3W (B:=40320) fun l hl=>?_) ?_
    ·obtain⟨z,hz,rfl⟩:=aP.mp hl
     refine aG (z7b fun q hq=>ownF q (ag.mp hq).1) ?_
     exact aG (z6R (show _≤8 from aG (aX _ _) h8)) (by decide)
    ·rw[ah]
     have:pre.length≤8:=by
      have:=congrArg List.length e
      simp at this
      omega
     exact aG (Nat.mul_le_mul_right _ this) (by decide)
   have l2:(z5X T n (c++[y]) (F.filter fun z=>at2 T y z)).length≤40320:=by
    refine aG (z7b fun q hq=>ownF q (ag.mp hq).1) ?_
    exact aG (z6R (show _≤8 from aG (aX _ _) h8)) (by decide)
   obtain⟨Y,hY⟩:∃Y,Y=z5X T n (c++[y]) (F.filter fun z=>at2 T y z):=⟨_,rfl⟩
   obtain⟨Z,hZ⟩:∃Z,Z=(pre.map fun y=>z5X T n (c++[y]) (F.filter fun z=>at2 T y z)).flatten:=⟨_,rfl⟩
   obtain⟨cy,hcy⟩:∃cy,cy=c++[y]:=⟨_,rfl⟩
   rw[←hcy]at ih ct
   rw[←hcy]at hY
   rw[←hcy]at l2
   rw[←hY]at ih l2
   rw[←hZ]at l1 cx ⊢
   have ex:extV (some (.lst (Z.map thD))) (some (.lst (Y.map thD)))=some (.lst ((Z++Y).map thD)):=by
    rw[eo_ext (by simp;omega),aF]
   have tl:∀W:List Nat,D.lst (W.map nD)=thD W:=fun _=>rfl
   simp! only[nD,t1,ct,z3d,tl,z4E,cx,ih,ex,z0d]
   have key:((pre++[y]).map fun y=>z5X T n (c++[y]) (F.filter fun z=>at2 T y z)).flatten=Z++Y:=by
    rw[aF,List.flatten_append,←hZ]
    congr 1
    show z5X T n (c++[y]) (F.filter fun z=>at2 T y z)++[]=Y
    rw[aL,hY,hcy]
   rw[key]
   exact⟨_,rfl⟩
  ·rintro s ⟨o1,o4,rfl⟩
   simp! only[z0d]
structure Ant(m:Nat)(T:List (List Bool)):Prop where
 sq:Sq m T
 own:∀i<m,at2 T i i=false
 ant:∀i<m,∀j<m,at2 T i j=true->at2 T j i=false
theorem z7e{T:List (List Bool)}{a:Nat}{r:List Nat}:chB T (a::r)=(r.all (fun j=>at2 T a j)&&chB T r):=rfl
theorem z9s{T:List (List Bool)}:∀{a b:List Nat},chB T (a++b)=(chB T a&&chB T b&&a.all fun x=>b.all fun y=>at2 T x y)
 |[],b=>by simp[chB]
 |x::a,b=>by
  have ih:=z9s (T:=T) (a:=a) (b:=b)
  rw[List.cons_append,z7e,z7e,List.all_append,ih,List.all_cons]
  cases a.all (fun j=>at2 T x j) <;> cases b.all (fun j=>at2 T x j) <;> cases chB T a <;> cases chB T b <;> simp
theorem chB_iff{T:List (List Bool)}{th:List Nat}:chB T th=true↔th.Pairwise fun x y=>at2 T x y=true:=by
 induction th with
 |nil=>simp[chB]
 |cons a r ih=>rw[z7e,aE,ih,bb,aI]
theorem y0J{T:List (List Bool)}:∀{n:Nat} {c f e:List Nat},e∈z5X T n c f->∃q,e=c++q∧∀x∈q,x∈f
 |0,_,_,_,h=>nomatch h
 |_+1,c,[],e,h=>by
  have:e=c:=by simpa[z5X] using h
  exact⟨[],by simp[this],fun _ z=>nomatch z⟩
 |n+1,c,x::f,e,h=>by
  obtain⟨l,hl,he⟩:=dI.mp (show e∈((x::f).map fun y=>z5X T n (c++[y]) ((x::f).filter fun z=>at2 T y z)).flatten from h)
  obtain⟨y,hy,rfl⟩:=aP.mp hl
  obtain⟨q,rfl,hq⟩:=y0J he
  refine⟨y::q,by simp,fun z hz=>?_⟩
  rcases ao.mp hz with w | w
  ·rw[w];exact hy
  ·exact(ag.mp (hq z w)).1
theorem y5F{T:List (List Bool)}:∀{n:Nat} {c f r:List Nat},f.length<n->(∀x∈f,at2 T x x=false)->chB T (c++r)=true->(∀x∈r,x∈f)->(∀y∈f,∀x∈c,at2 T x y=true)->∃e∈z5X T n c f,(∀x∈c++r,x∈e)∧chB T e=true
 |0,_,_,_,h,_,_,_,_=>absurd h (by omega)
 |n+1,c,[],r,_,_,hc,hr,_=>by
  have:r=[]:=by
   cases r with
   |nil=>rfl
   |cons x r=>exact absurd (hr x af) (by simp)
  subst this
  rw[aL]at hc ⊢
  exact⟨c,by simp[z5X],fun x hx=>hx,hc⟩
 |n+1,c,x::f,r,hn,own,hc,hr,hb=>by
  have go:∀(y:Nat) (r':List Nat),y∈x::f->chB T ((c++[y])++r')=true->(∀z∈r',z∈x::f)->∃e∈z5X T (n+1) c (x::f),(∀z∈(c++[y])++r',z∈e)∧chB T e=true:=fun y r' hy hc' hr'=>by
   have fl:=y0m hy (own y hy)
   have hyr:∀z∈r',at2 T y z=true:=fun z hz=>by
    rw[aT,z9s]at hc'
    have:=(ax.mp (ax.mp hc').1).2
    rw[List.singleton_append,z7e]at this
    exact aI.mp (ax.mp this).1 z hz
   obtain⟨e,he,h1,h2⟩:=y5F (n:=n) (c:=c++[y]) (f:=(x::f).filter fun z=>at2 T y z) (r:=r') (by omega) (fun z hz=>own z (ag.mp hz).1) hc' (fun z hz=>ag.mpr ⟨hr' z hz,hyr z hz⟩) (fun z hz w hw=>by
    rcases au.mp hw with q | q
    ·exact hb z (ag.mp hz).1 w q
    ·rw[aq.mp q]
     have:=(ag.mp hz).2
     simpa using this)
   exact⟨e,dI.mpr ⟨_,aP.mpr ⟨y,hy,rfl⟩,he⟩,h1,h2⟩
  cases r with
  |nil=>
   rw[aL]at hc
   obtain⟨e,he,h1,h2⟩:=go x [] af (by
    rw[aL,z9s,hc]
    rw[aE,aI]
    refine⟨by simp[chB],fun z hz=>?_⟩
    simp[hb x af z hz]) (fun z hz=>nomatch hz)
   exact⟨e,he,fun z hz=>h1 z (by simp at hz ⊢;exact .inl hz),h2⟩
  |cons y r=>
   obtain⟨e,he,h1,h2⟩:=go y r (hr y af) (by rw[aT];exact hc) fun z hz=>hr z (ae _ hz)
   exact⟨e,he,fun z hz=>h1 z (by rw[aT];exact hz),h2⟩
def insC(T:List (List Bool))(o:Nat)(c:List Nat):List Nat:=(c.filter fun x=>at2 T x o)++[o]++c.filter fun x=>at2 T o x
def y1w(T:List (List Bool))(a o:Nat)(found:List (List Nat)):List (List Nat):=if at2 T a o=true then found++(found.map (insC T o)).filter (z5F T)else found
def hdL(T:List (List Bool))(a:Nat):Nat->List (List Nat)
 |0=>[[a]]
 |k+1=>y1w T a k (hdL T a k)
theorem hd_ok{m:Nat}{T:List (List Bool)}{a:Nat}(ha:a<m)(own:at2 T a a=false):∀{k:Nat},k≤m->∀c∈hdL T a k,chB T c=true∧(∃r,c=a::r)∧∀x∈c,x<m
 |0,_,c,hc=>by
  have:c=[a]:=by simpa[hdL] using hc
  subst this
  exact⟨by simp[chB],⟨[],rfl⟩,fun x hx=>by rw[aq.mp hx];exact ha⟩
 |k+1,hk,c,hc=>by
  have ih:=hd_ok (k:=k) ha own (by omega)
  have hc:c∈y1w T a k (hdL T a k):=hc
  unfold y1w at hc
  split at hc
  ·rename_i hak
   rcases au.mp hc with z | z
   ·exact ih c z
   ·obtain⟨hz,hch⟩:=ag.mp z
    obtain⟨c0,h0,rfl⟩:=aP.mp hz
    obtain⟨_,⟨r,rfl⟩,hlt⟩:=ih c0 h0
    refine⟨(ax.mp hch).2,?_,fun x hx=>?_⟩
    ·unfold insC
     rw[bh,if_pos hak]
     exact⟨_,rfl⟩
    ·unfold insC at hx
     rcases au.mp hx with w | w
     ·rcases au.mp w with w | w
      ·exact hlt x (ag.mp w).1
      ·rw[aq.mp w];omega
     ·exact hlt x (ag.mp w).1
  ·exact ih c hc
theorem x4V{m:Nat}{T:List (List Bool)}(A:Ant m T){a:Nat}{r:List Nat}(hc:chB T (a::r)=true)(hlt:∀x∈a::r,x<m):∀{k:Nat},k≤m->(a::r.filter fun x=>decide (x<k))∈hdL T a k
 |0,_=>by
  have:(r.filter fun x=>decide (x<0))=[]:=by rw[bV];simp
  rw[this]
  simp[hdL]
 |k+1,hk=>by
  have ih:=x4V A hc hlt (k:=k) (by omega)
  have pw:=chB_iff.mp hc
  have nd:(a::r).Nodup:=pw.imp_of_mem fun {x y} hx hy z=>fun e=>by
   subst e
   rw[A.own x (hlt x hx)]at z
   cases z
  show _∈y1w T a k (hdL T a k)
  unfold y1w
  by_cases hkr:k∈r
  ·have hak:at2 T a k=true:=(bb.mp pw).1 k hkr
   rw[if_pos hak]
   refine aQ _ (ag.mpr ⟨aP.mpr ⟨_,ih,?_⟩,?_⟩)
   ·obtain⟨p,q,rfl⟩:=fB hkr
    have pw2:=(bb.mp pw).2
    obtain⟨_,pq,pc⟩:=List.pairwise_append.mp pw2
    have hp:∀x∈p,at2 T x k=true:=fun x hx=>pc x hx k af
    have hq:∀x∈q,at2 T k x=true:=fun x hx=>(bb.mp pq).1 x hx
    have km:k<m:=by omega
    have hp':∀x∈p,at2 T k x=false:=fun x hx=>A.ant x (hlt x (by simp[hx])) k km (hp x hx)
    have hq':∀x∈q,at2 T x k=false:=fun x hx=>A.ant k km x (hlt x (by simp[hx])) (hq x hx)
    have hka:at2 T k a=false:=A.ant a (hlt a af) k km hak
    have nd2:=(aw.mp nd).2
    have nk:k∉p∧k∉q:=by
     obtain⟨_,n2,n3⟩:=bP.mp nd2
     exact⟨fun z=>n3 k z k af rfl,(aw.mp n2).1⟩
    have f1:∀l:List Nat,k∉l->(l.filter fun x=>decide (x<k+1))=l.filter fun x=>decide (x<k):=fun l hl=>bC fun x hx=>by
     have:x≠k:=fun z=>hl (z ▸ hx)
     rw[decide_eq_decide]
     omega
    have e1:((p++k::q).filter fun x=>decide (x<k))=(p.filter fun x=>decide (x<k))++q.filter fun x=>decide (x<k):=by
     rw[bW,bh,if_neg (by simp)]
    have e2:((p++k::q).filter fun x=>decide (x<k+1))=(p.filter fun x=>decide (x<k))++k::q.filter fun x=>decide (x<k):=by
     rw[bW,bh,if_pos (by simp),f1 p nk.1,f1 q nk.2]
    rw[e1,e2]
    unfold insC
    have g1:((a::((p.filter fun x=>decide (x<k))++q.filter fun x=>decide (x<k))).filter fun x=>at2 T x k)=a::p.filter fun x=>decide (x<k):=by
     rw[bh,if_pos hak,bW]
     have h1:((p.filter fun x=>decide (x<k)).filter fun x=>at2 T x k)=p.filter fun x=>decide (x<k):=bF.mpr fun x hx=>hp x (ag.mp hx).1
     have h2:((q.filter fun x=>decide (x<k)).filter fun x=>at2 T x k)=[]:=bV.mpr fun x hx=>by rw[hq' x (ag.mp hx).1];exact ar
     rw[h1,h2,aL]
    have g2:((a::((p.filter fun x=>decide (x<k))++q.filter fun x=>decide (x<k))).filter fun x=>at2 T k x)=q.filter fun x=>decide (x<k):=by
     rw[bh,if_neg (by rw[hka];exact ar),bW]
     have h1:((p.filter fun x=>decide (x<k)).filter fun x=>at2 T k x)=[]:=bV.mpr fun x hx=>by rw[hp' x (ag.mp hx).1];exact ar
     have h2:((q.filter fun x=>decide (x<k)).filter fun x=>at2 T k x)=q.filter fun x=>decide (x<k):=bF.mpr fun x hx=>hq x (ag.mp hx).1
     rw[h1,h2,cG]
    rw[g1,g2]
    simp
   ·refine ax.mpr ⟨rfl,?_⟩
    rw[chB_iff]
    exact pw.sublist (List.Sublist.cons₂ a List.filter_sublist)
  ·have e:(r.filter fun x=>decide (x<k+1))=r.filter fun x=>decide (x<k):=bC fun x hx=>by
    have:x≠k:=fun z=>hkr (z ▸ hx)
    rw[decide_eq_decide]
    omega
   rw[e]
   split
   ·exact b9 _ ih
   ·exact ih
theorem hd_all{m:Nat}{T:List (List Bool)}(A:Ant m T){a:Nat}{r:List Nat}(hc:chB T (a::r)=true)(hlt:∀x∈a::r,x<m):(a::r)∈hdL T a m:=by
 have:=x4V A hc hlt (k:=m) (am _)
 have e:(r.filter fun x=>decide (x<m))=r:=bF.mpr fun x hx=>decide_eq_true (hlt x (ae _ hx))
 rwa [e]at this
def crP(T:List (List Bool))(m:Nat)(c:List Nat):Bool:=decide (((btL T m c).length:Int)=0)
def crB(T:List (List Bool))(m a:Nat):Bool:=(hdL T a m).any (crP T m)
def btN(T:List (List Bool))(m a:Nat):List Nat:=(ad m).filter fun j=>at2 T a j
theorem bt_nil{T:List (List Bool)}{m:Nat}{c:List Nat}:crP T m c=true↔∀x<m,∃y∈c,at2 T x y=false:=by
 unfold crP btL
 rw[decide_eq_true_iff]
 constructor
 ·intro h x hx
  have h:((ad m).filter fun a=>c.all fun j=>at2 T a j)=[]:=aS.mp (by omega)
  have:=bV.mp h x (ak.mpr hx)
  rw[aI]at this
  by_cases hq:∃y∈c,at2 T x y=false
  ·exact hq
  ·exact absurd (fun y hy=>by
    cases e:at2 T x y with
    |true=>rfl
    |false=>exact absurd ⟨y,hy,e⟩ hq) this
 ·intro h
  have:((ad m).filter fun a=>c.all fun j=>at2 T a j)=[]:=bV.mpr fun x hx=>by
   obtain⟨y,hy,e⟩:=h x (ak.mp hx)
   intro z
   rw[aI.mp z y hy]at e
   cases e
  rw[this]
  rfl
theorem cr_end{m:Nat}{T:List (List Bool)}(A:Ant m T){a n:Nat}(ha:a<m)(hn:m<n):((z5X T n [a] (btN T m a)).any fun e=>z5F T e&&crP T m e)=crB T m a:=by
 have hlt:∀x∈btN T m a,x<m:=fun x hx=>ak.mp (ag.mp hx).1
 rw[dW,ca]
 unfold crB
 rw[ca]
 constructor
 ·rintro⟨e,he,h⟩
  obtain⟨h1,h2⟩:=ax.mp h
  obtain⟨q,rfl,hq⟩:=y0J he
  refine⟨[a]++q,hd_all A (ax.mp h1).2 fun x hx=>?_,h2⟩
  rcases ao.mp hx with z | z
  ·rw[z];exact ha
  ·exact hlt x (hq x z)
 ·rintro⟨c,hc,h⟩
  obtain⟨h1,⟨r,rfl⟩,h3⟩:=hd_ok ha (A.own a ha) (am _) c hc
  have hbt:(btN T m a).length≤m:=aG (aX _ _) (by simp)
  have h1':(∀x∈r,at2 T a x=true):=aI.mp (ax.mp (show(r.all (fun j=>at2 T a j)&&chB T r)=true from h1)).1
  obtain⟨e,he,g1,g2⟩:=y5F (T:=T) (n:=n) (c:=[a]) (f:=btN T m a) (r:=r) (by omega) (fun x hx=>A.own x (hlt x hx)) h1 (fun x hx=>ag.mpr ⟨ak.mpr (h3 x (ae _ hx)),h1' x hx⟩) (fun y hy x hx=>by
   rw[aq.mp hx]
   have:=(ag.mp hy).2
   simpa using this)
  refine⟨e,he,ax.mpr ⟨ax.mpr ⟨?_,g2⟩,?_⟩⟩
  ·have:=g1 a (by simp)
   cases e with
   |nil=>cases this
   |cons _ _=>rfl
  ·rw[bt_nil]at h ⊢
   intro x hx
   obtain⟨y,hy,e'⟩:=h x hx
   exact⟨y,g1 y hy,e'⟩
theorem y4P{T:List (List Bool)}:∀{n:Nat} {c f e:List Nat},e∈z5X T n c f->chB T c=true->(∀y∈f,∀x∈c,at2 T x y=true)->chB T e=true
 |0,_,_,_,h,_,_=>nomatch h
 |_+1,c,[],e,h,hc,_=>by
  have:e=c:=by simpa[z5X] using h
  rw[this];exact hc
 |n+1,c,x::f,e,h,hc,hb=>by
  obtain⟨l,hl,he⟩:=dI.mp (show e∈((x::f).map fun y=>z5X T n (c++[y]) ((x::f).filter fun z=>at2 T y z)).flatten from h)
  obtain⟨y,hy,rfl⟩:=aP.mp hl
  refine y4P he ?_ fun z hz w hw=>?_
  ·rw[z9s,hc]
   rw[aE,aI]
   refine⟨by simp[chB],fun z hz=>?_⟩
   simp[hb y hy z hz]
  ·rcases au.mp hw with q | q
   ·exact hb z (ag.mp hz).1 w q
   ·rw[aq.mp q]
    have:=(ag.mp hz).2
    simpa using this
def y6W(T:List (List Bool))(m a:Nat):List (List Nat):=z5X T 12 [a] (btN T m a)
structure Ech(m:Nat)(T:List (List Bool))(a:Nat)(e:List Nat):Prop where
 ch:z5F T e=true
 lt:∀x∈e,x<m
 len:e.length≤m
 hd:∃q,e=a::q
theorem y7r{m:Nat}{T:List (List Bool)}(A:Ant m T){a:Nat}(ha:a<m){e:List Nat}(he:e∈y6W T m a):Ech m T a e:=by
 obtain⟨q,rfl,hq⟩:=y0J he
 have hlt:∀x∈[a]++q,x<m:=fun x hx=>by
  rcases ao.mp hx with z | z
  ·rw[z];exact ha
  ·exact ak.mp (ag.mp (hq x z)).1
 have hc:chB T ([a]++q)=true:=y4P he (by simp[chB]) fun y hy x hx=>by
  rw[aq.mp hx]
  have:=(ag.mp hy).2
  simpa using this
 have nd:([a]++q).Nodup:=(chB_iff.mp hc).imp_of_mem fun {x y} hx hy z=>fun e=>by
  subst e
  rw[A.own x (hlt x hx)]at z
  cases z
 exact⟨ax.mpr ⟨rfl,hc⟩,hlt,by simpa using List.Nodup.length_le_of_subset nd fun x hx=>ak.mpr (hlt x hx),q,rfl⟩
theorem y8G{T:List (List Bool)}{m a:Nat}:(btN T m a).length≤m:=aG (aX _ _) (by simp)
theorem x2R{m:Nat}{T:List (List Bool)}(A:Ant m T)(hm:m≤8){a:Nat}:(y6W T m a).length≤40320:=by
 refine aG (z7b fun x hx=>A.own x (ak.mp (ag.mp hx).1)) ?_
 have:=y8G (T:=T) (m:=m) (a:=a)
 exact aG (z6R (show _≤8 by omega)) (by decide)
theorem y8k{m:Nat}{T:List (List Bool)}(A:Ant m T)(hm:m≤8){a:Nat}(ha:a<m):z1X [z0G T,thD [a],thD (btN T m a)]=some (.lst ((y6W T m a).map thD)):=by
 have:=y8G (T:=T) (m:=m) (a:=a)
 exact y4O A.sq A.own hm (n:=12) (by omega) (by omega) (by simp;omega) fun x hx=>ak.mp (ag.mp hx).1
def bpD(T:List (List Bool))(m:Nat)(c:List Nat):D:=.tup [thD c,nD ((btL T m c).headD 0)]
def papD(T:List (List Bool))(m a:Nat):D:=match (y6W T m a).find? (crP T m)with
 |some c=>.tup [.str "chain",thD c]
 |none=>.tup [.str "beaten",.lst ((y6W T m a).map (bpD T m))]
theorem st_cr{m:Nat}{T:List (List Bool)}(A:Ant m T)(hm:m≤8){a:Nat}{c:List Nat}(h:Ech m T a c):z5n [z0G T,thD c]=some (.bl (crP T m c)):=by
 have h1:=h.len
 have:=y7f A.sq (by omega) (th:=c) (by omega) h.lt
 rw[h.ch,eK]at this
 exact this
theorem y1b{α:Type}{p:α->Bool}:∀{l pre post:List α} {x:α},l=pre++x::post->(∀y∈pre,p y=false)->p x=true->l.find? p=some x
 |_,[],post,x,e,_,hx=>by rw[e,cG,bM,hx]
 |_,y::pre,post,x,e,hp,hx=>by
  rw[e,List.cons_append,bM,hp y af]
  exact y1b rfl (fun z hz=>hp z (ae _ hz)) hx
theorem x3C{m:Nat}{T:List (List Bool)}(A:Ant m T)(hm:m≤8){a:Nat}(ha:a<m):z1M [z0G T,.int (a:Int)]=some (papD T m a):=by
 refine z0s rfl ?_
 have e1:=y8k A hm ha
 have e2:=z5u A.sq (by omega) ha
 have e2:z0I [z0G T,.int (a:Int)]=some (thD (btN T m a)):=e2
 have t1:D.lst [.int (a:Int)]=thD [a]:=rfl
 have f1:z6k (some [D.int (a:Int)])=some [D.int (a:Int)]:=rfl
 have l1:=x2R A hm (a:=a)
 have ok:∀c∈y6W T m a,Ech m T a c:=fun c hc=>y7r A ha hc
 unfold papD
 obtain⟨E,hE⟩:∃E,E=y6W T m a:=⟨_,rfl⟩
 rw[←hE]at e1 l1 ok ⊢
 simp! only[z3r,f1,t1,e2,e1]
 refine y6a (I:=fun s=>∃o3,s=[some (.sh (z0G T)),some (.sh (.int (a:Int))),some (.sh (.lst (E.map thD))),o3]∧∀y∈E,crP T m y=false) ?_ ?_
 ·refine z3j (enc:=thD) (fun pre s=>∃o3,s=[some (.sh (z0G T)),some (.sh (.int (a:Int))),some (.sh (.lst (E.map thD))),o3]∧∀y∈pre,crP T m y=false) ⟨_,rfl,fun y hy=>by cases hy⟩ ?_ ?_
  ·rintro pre c post e s ⟨o3,rfl,hp⟩
   have hc:c∈E:=by rw[e];simp
   have st:=st_cr A hm (ok c hc)
   cases h:crP T m c with
   |true=>
    rw[h]at st
    rw[y1b e hp h]
    simp! only[st,z0d]
    exact .inr trivial
   |false=>
    rw[h]at st
    simp! only[st,z0d]
    refine⟨_,rfl,fun y hy=>?_⟩
    rcases au.mp hy with z | z
    ·exact hp y z
    ·rw[aq.mp z];exact h
  ·rintro s ⟨o3,rfl,hp⟩
   exact .inl ⟨_,rfl,_,rfl,hp⟩
 ·rintro s ⟨o3,rfl,hp⟩
  have hfn:E.find? (crP T m)=none:=fA.mpr fun y hy=>by rw[hp y hy];exact ar
  rw[hfn]
  have cx:z2c (some (E.map thD)) (z1N z3p (mkT (z0m [z0c 4,d2 ixD (z0k z2E [z0c 0,z0c 4]) (dC (.int 0))])) [some (z0G T),some (.int (a:Int)),some (.lst (E.map thD)),shO o3])=some (E.map (bpD T m)):=by
   rw[z2j (by rw[ah];omega)]
   refine z1F (bpD T m) fun c hc=>?_
   have h1:=(ok c hc).len
   have bt:=z8L A.sq (by omega) (th:=c) (by omega) (ok c hc).lt
   have hne:btL T m c≠[]:=fun z=>by
    have:=hp c hc
    unfold crP at this
    rw[z]at this
    simp at this
   have i0:ixD (thD (btL T m c)) (.int 0)=some (nD ((btL T m c).headD 0)):=by
    cases hb:btL T m c with
    |nil=>exact absurd hb hne
    |cons x w=>exact z1u (j:=0) rfl
   simp! only[bt,i0]
   rfl
  simp! only[cx,z0d]
theorem y8o{a b:Str}{c:Bool}(h1:okP (.str a)=true)(h2:okP (.str b)=true)(h:PyData.eqv (.str a) (.str b)=c):eqD (.str a) (.str b)=some (.bl c):=by
 unfold eqD
 rw[h1,h2]
 show some (D.bl (PyData.eqv (.str a) (.str b)))=_
 rw[h]
theorem k_cc:eqD (.str "chain") (.str "chain")=some (.bl true):=y8o (by decide +kernel) (by decide +kernel) (by decide +kernel)
theorem k_bc:eqD (.str "beaten") (.str "chain")=some (.bl false):=y8o (by decide +kernel) (by decide +kernel) (by decide +kernel)
theorem x3c{m:Nat}{T:List (List Bool)}(A:Ant m T)(hm:m≤8){a:Nat}(ha:a<m):o2 eqD (ixD (papD T m a) (.int 0)) (some (.str "chain"))=some (.bl (crB T m a)):=by
 have h:=cr_end A ha (show m<12 by omega)
 have e:((z5X T 12 [a] (btN T m a)).any fun e=>z5F T e&&crP T m e)=(y6W T m a).any (crP T m):=by
  show((y6W T m a).any fun e=>z5F T e&&crP T m e)=_
  rw[dW,ca,ca]
  constructor
  ·rintro⟨c,hc,h⟩
   exact⟨c,hc,(ax.mp h).2⟩
  ·rintro⟨c,hc,h⟩
   exact⟨c,hc,ax.mpr ⟨(y7r A ha hc).ch,h⟩⟩
 rw[e]at h
 rw[←h]
 unfold papD
 cases hf:(y6W T m a).find? (crP T m)with
 |some c=>
  have:(y6W T m a).any (crP T m)=true:=ca.mpr ⟨c,List.mem_of_find?_eq_some hf,List.find?_some hf⟩
  rw[this]
  exact k_cc
 |none=>
  have:(y6W T m a).any (crP T m)=false:=by
   rw[b6]
   exact fA.mp hf
  rw[this]
  exact k_bc
theorem y8X{m:Nat}{T:List (List Bool)}(A:Ant m T)(hm:m≤8):z3y [z0G T]=some (thD ((ad m).filter (crB T m))):=by
 refine z0s rfl ?_
 have cx:z2c (some (z2h 0 m)) (z1N (z0H (d2 eqD (d2 ixD (z0k z1M [z0c 0,z0c 1]) (dC (.int 0))) (dC (.str "chain")))) (z0c 1) [some (z0G T)])=some (((ad m).filter (crB T m)).map nD):=by
  rw[z1l]
  refine z8C (crB T m) nD (by simp;omega) (fun a ha=>?_) fun a _ _=>by simp! only[]
  have ha:=ak.mp ha
  have pe:=x3C A hm ha
  have pk:=x3c A hm ha
  simp! only[nD,pe,pk]
 simp! only[z9o,z2C,A.sq.1,z1J (show m≤1000000 by omega),cx,z3d,z0d]
 rfl
theorem y7K{n:Nat}{T:List (List Bool)}(sq:Sq n T)(hn:n≤1000){k:Nat}(hk:k<n):z7g [z0G T,.int (k:Int)]=some (z3Q ((ad n).map fun i=>at2 T i k)):=by
 refine z0s rfl ?_
 have hl':(T.map z3Q).length≤1000000:=by rw[ah,sq.1];omega
 have e:(ad n).map (fun i=>at2 T i k)=T.map fun r=>r.getD k false:=by
  apply bi
  ·simp[sq.1]
  ·intro i h1 h2
   have hi:i<T.length:=by simpa using h2
   simp[at2,aZ,ac hi]
 have hc:z1d (z1N z3p (d2 ixD (z0c 2) (z0c 1)) [some (z0G T),some (.int (k:Int))]) (T.map z3Q)=some ((T.map fun r=>r.getD k false).map bD):=by
  rw[aJ]
  exact z1F (fun r:List Bool=>bD (r.getD k false)) fun r hr=>by simp! only[z9v (show k<r.length by rw[sq.2 r hr];exact hk),bD]
 have fl:=z1o (z1V (T.map fun r=>r.getD k false))
 simp! only[z9S,seq_tab,z2j hl',hc,fl,z0d]
 rw[e]
 rfl
theorem bof_eq{n:Nat}{T:List (List Bool)}(sq:Sq n T)(hn:n≤1000){k:Nat}(hk:k<n):z2M [z0G T,.int (k:Int)]=some (thD ((ad n).filter fun j=>at2 T j k)):=by
 refine z0s rfl ?_
 have p:=y1x ((ad n).map fun i=>at2 T i k) (by rw[ah,aW];omega)
 have e:((ad ((ad n).map fun i=>at2 T i k).length).filter fun i=>((ad n).map fun i=>at2 T i k).getD i false)=(ad n).filter fun j=>at2 T j k:=by
  rw[ah,aW]
  apply bC
  intro i hi
  rw[y0u (by simpa using hi)]
  simp
 rw[e]at p
 simp! only[z3W,y7K sq hn hk,p,z0d]
def wsum(ws:List Int)(l:List Nat):Int:=(l.map fun j=>ws.getD j 0).sum
def scr(T:List (List Bool))(ws:List Int)(n i:Nat):Int:=wsum ws ((ad n).filter fun j=>at2 T i j) - wsum ws ((ad n).filter fun j=>at2 T j i)
theorem y8S{ws:List Int}{th:List Nat}(hl:th.length≤1000)(h:∀x∈th,x<ws.length):z2D [z4H ws,thD th]=some (.int (wsum ws th)):=by
 refine z0s rfl ?_
 simp! only[z4T,z4E]
 rw[z5l (fun j=>D.int (ws.getD j 0)) hl fun j hj=>by simp! only[nD,ix_in (h j hj)]]
 have e:(th.map fun j=>D.int (ws.getD j 0))=(th.map fun j=>ws.getD j 0).map D.int:=by rw[aJ];rfl
 simp! only[e,x5v,z0d]
 rfl
theorem x2y{m:Nat}{T:List (List Bool)}(sq:Sq m T)(hm:m≤1000){ws:List Int}(hw:ws.length=m){i:Nat}(hi:i<m):z7U [z0G T,z4H ws,.int (i:Int)]=some (.int (scr T ws m i)):=by
 refine z0s rfl ?_
 have fl:∀p:Nat->Bool,((ad m).filter p).length≤1000:=fun p=>aG (aX ..) (by simpa using hm)
 have fm:∀p:Nat->Bool,∀x∈(ad m).filter p,x<ws.length:=fun p x hx=>by
  rw[hw]
  exact ak.mp (ag.mp hx).1
 simp! only[y2P,z5u sq hm hi,bof_eq sq hm hi,y8S (fl _) (fm _),z0d]
 rfl
theorem y1I{ws:List Int}{p:Nat->Bool}{n:Nat}:wsum ws ((ad (n+1)).filter p)=wsum ws ((ad n).filter p)+if p n=true then ws.getD n 0 else 0:=by
 rw[x2K]
 unfold wsum
 rw[aF,cg]
 by_cases h:p n=true
 ·rw[if_pos h,if_pos h];simp
 ·rw[if_neg h,if_neg h];simp
theorem y9W{r:List Bool}{th:List Nat}(hl:th.length≤1000)(h:∀x∈th,x<r.length):z5s [z3Q r,thD th]=some (z3Q (th.map fun j=>r.getD j false)):=by
 refine z0s rfl ?_
 have hl':(th.map nD).length≤1000000:=by rw[ah];omega
 have hc:z1d (z1N z3p (d2 ixD (z0c 0) (z0c 2)) [some (z3Q r),some (thD th)]) (th.map nD)=some ((th.map fun j=>r.getD j false).map bD):=by
  rw[aJ]
  exact z1F (fun j:Nat=>bD (r.getD j false)) fun j hj=>by simp! only[nD,z9v (h j hj),bD]
 have fl:=z1o (z1V (th.map fun j=>r.getD j false))
 simp! only[y0y,z4E,z2j hl',hc,fl,z0d]
 rfl
theorem y8J{n:Nat}{T:List (List Bool)}(sq:Sq n T){th:List Nat}(hl:th.length≤1000)(h:∀x∈th,x<n):z8S [z0G T,thD th]=some (z0G (z0O th (at2 T))):=by
 refine z0s rfl ?_
 have hl':(th.map nD).length≤1000000:=by rw[ah];omega
 have hc:z1d (z1N z3p (z0k z5s [d2 ixD (z0c 0) (z0c 2),z0c 1]) [some (z0G T),some (thD th)]) (th.map nD)=some ((z0O th (at2 T)).map z3Q):=by
  unfold z0O
  rw[aJ]
  exact z1F (fun i:Nat=>z3Q (th.map fun j=>at2 T i j)) fun i hi=>by
   have p:=y9W (r:=T.getD i []) (th:=th) hl (fun x hx=>by rw[sq.len (h i hi)];exact h x hx)
   simp! only[nD,z9i (show i<T.length by rw[sq.1];exact h i hi),p]
   rfl
 simp! only[x0F,z4E,z2j hl',hc,z0d]
 rfl
def sg(k:Nat):Int:=if k % 2=0 then 1 else -1
def sgn(T:List (List Bool))(i j:Nat):Int:=if at2 T i j=true then 1 else -1
def pfS(T:List (List Bool)):Nat->List Nat->Int
 |0,_=>1
 |_+1,[]=>1
 |n+1,x::r=>((ad r.length).map fun k=>sg k*sgn T x (r.getD k 0)*pfS T n (r.eraseIdx k)).sum
theorem z6u(k:Nat):sg k=1∨sg k = -1:=by unfold sg;split;exact .inl rfl;exact .inr rfl
theorem z6h(T:List (List Bool))(i j:Nat):sgn T i j=1∨sgn T i j = -1:=by unfold sgn;split;exact .inl rfl;exact .inr rfl
theorem sg_add{a b:Nat}:sg (a+b)=sg a*sg b:=by
 unfold sg
 rcases cP a with h | h <;> rcases cP b with k | k
 ·rw[if_pos (by omega),if_pos h,if_pos k];rfl
 ·rw[if_neg (by omega),if_pos h,if_neg (by omega)];rfl
 ·rw[if_neg (by omega),if_neg (by omega),if_pos k];rfl
 ·rw[if_pos (by omega),if_neg (by omega),if_neg (by omega)];rfl
theorem z7V{f:Nat->Int}{B:Int}:∀{c:Nat},(∀k<c,-B≤f k∧f k≤B)->-((c:Int)*B)≤((ad c).map f).sum∧((ad c).map f).sum≤(c:Int)*B
 |0,_=>by simp
 |c+1,h=>by
  have ih:=z7V (c:=c) fun k hk=>h k (by omega)
  have hc:=h c (by omega)
  rw[ci,aF,cg]
  have e:(((c+1:Nat)):Int)*B=(c:Int)*B+B:=by rw[Int.natCast_add,Int.add_mul];simp
  rw[e]
  simp only[aC,cJ,bI,List.sum_nil]
  omega
theorem y0v{T:List (List Bool)}:∀{n:Nat} {L:List Nat},L.length≤8->-(8 ^ n:Int)≤pfS T n L∧pfS T n L≤8 ^ n
 |0,L,_=>by show -(8 ^ 0:Int)≤1∧(1:Int)≤8 ^ 0;omega
 |n+1,[],_=>by
  show -(8 ^ (n+1):Int)≤1∧(1:Int)≤8 ^ (n+1)
  have:(0:Int)<8 ^ (n+1):=Int.pow_pos (by omega)
  omega
 |n+1,x::r,hl=>by
  have hr:r.length≤7:=by simp at hl;omega
  have hp:(0:Int)<8 ^ n:=Int.pow_pos (by omega)
  have:=z7V (c:=r.length) (B:=8 ^ n) (f:=fun k=>sg k*sgn T x (r.getD k 0)*pfS T n (r.eraseIdx k)) fun k hk=>by
   have b:=y0v (T:=T) (n:=n) (L:=r.eraseIdx k) (by have:=List.length_eraseIdx_le r k;omega)
   show -(8 ^ n:Int)≤sg k*sgn T x (r.getD k 0)*pfS T n (r.eraseIdx k)∧sg k*sgn T x (r.getD k 0)*pfS T n (r.eraseIdx k)≤8 ^ n
   rcases z6u k with h | h <;> rcases z6h T x (r.getD k 0)with h' | h' <;> rw[h,h'] <;> omega
  show -(8 ^ (n+1):Int)≤((ad r.length).map fun k=>sg k*sgn T x (r.getD k 0)*pfS T n (r.eraseIdx k)).sum∧((ad r.length).map fun k=>sg k*sgn T x (r.getD k 0)*pfS T n (r.eraseIdx k)).sum≤8 ^ (n+1)
  have e:(8 ^ (n+1):Int)=8*8 ^ n:=by rw[Int.pow_succ,c5]
  have m1:(r.length:Int)*8 ^ n≤8*8 ^ n:=cF (by omega) (by omega)
  rw[e]
  omega
theorem x0X{f:Nat->Int}:∀{c:Nat},(∀k<c,f k % 2=1)->((ad c).map f).sum % 2=(c:Int) % 2
 |0,_=>by simp
 |c+1,h=>by
  have ih:=x0X (c:=c) fun k hk=>h k (by omega)
  have hc:=h c (by omega)
  rw[ci,aF,cg]
  simp only[aC,cJ,bI,List.sum_nil]
  omega
theorem y4z{T:List (List Bool)}:∀{n c:Nat} {L:List Nat},L.length=2*c->pfS T n L % 2=1
 |0,_,L,_=>rfl
 |n+1,_,[],_=>rfl
 |n+1,c,x::r,hl=>by
  have hr:r.length+1=2*c:=hl
  show((ad r.length).map fun k=>sg k*sgn T x (r.getD k 0)*pfS T n (r.eraseIdx k)).sum % 2=1
  rw[x0X fun k hk=>?_]
  ·omega
  ·have b:=y4z (T:=T) (n:=n) (c:=c - 1) (L:=r.eraseIdx k) (by rw[bf,if_pos hk];omega)
   rcases z6u k with h | h <;> rcases z6h T x (r.getD k 0)with h' | h' <;> rw[h,h'] <;> omega
theorem y3X{i j:Int}(h1:-(2 ^ 100)≤i∧i≤2 ^ 100)(h2:-(2 ^ 100)≤j∧j≤2 ^ 100):mulB (.int i) (.int j)=some (.int (i*j)):=by
 have hb:(2 ^ 100:Nat)<bigL:=by decide
 have h:CMulB i j:=⟨dq (show i.natAbs≤2 ^ 100 by omega) hb,dq (show j.natAbs≤2 ^ 100 by omega) hb⟩
 show(if CMulB i j then _ else _)=_
 rw[if_pos h]
theorem y5x(k:Nat):z0N [.int (k:Int)]=some (.int (sg k)):=by
 refine z0s rfl ?_
 have d:z2J (.int (k:Int)) (.int 2)=some (.int ((k:Int) % 2)):=z1Q (by omega)
 unfold sg
 rcases cP k with h | h
 ·have z:decide ((k:Int) % 2=0)=true:=decide_eq_true (by omega)
  rw[if_pos h]
  simp_all! only[z2x,d,z,z0d]
 ·have z:decide ((k:Int) % 2=0)=false:=decide_eq_false (by omega)
  rw[if_neg (by omega)]
  simp_all! only[z2x,d,z,z0d]
theorem sign_eq{th:List Nat}{T:List (List Bool)}{x k:Nat}{r:List Nat}(e:th=x::r)(hk:k<r.length):y2G [z0G (z0O th (at2 T)),.int ((k:Int)+1)]=some (.int (sgn T x (r.getD k 0))):=by
 refine z0s rfl ?_
 have sq:=z7S (th:=th) (f:=at2 T)
 have hl:th.length=r.length+1:=by rw[e];rfl
 have ixt:ixD (z0G (z0O th (at2 T))) (.int 0)=some (z3Q ((z0O th (at2 T)).getD 0 [])):=z9i (i:=0) (by rw[sq.1];omega)
 have ixx:ixD (z3Q ((z0O th (at2 T)).getD 0 [])) (.int ((k:Int)+1))=some (.bl (at2 (z0O th (at2 T)) 0 (k+1))):=z9v (j:=k+1) (by rw[sq.len (by omega)];omega)
 have ev:at2 (z0O th (at2 T)) 0 (k+1)=at2 T x (r.getD k 0):=by
  rw[e]
  show((((x::r).map fun i=>(x::r).map fun j=>at2 T i j).getD 0 []).getD (k+1) false)=_
  show(((r.map fun j=>at2 T x j)).getD k false)=_
  simp[aZ,ac hk]
 rw[ev]at ixx
 unfold sgn
 cases hv:at2 T x (r.getD k 0)with
 |true=>
  rw[hv]at ixx
  simp_all! only[y5c,ixt,ixx,z0d]
  rfl
 |false=>
  rw[hv]at ixx
  simp_all! only[y5c,ixt,ixx,z0d]
  rfl
theorem z7R:∀{r:List Nat} {k:Nat},k<r.length->((ad r.length).filter fun i=>decide (i≠k)).map (fun i=>r.getD i 0)=r.eraseIdx k
 |[],_,h=>by simp at h
 |y::r,k,h=>by
  show((ad (r.length+1)).filter fun i=>decide (i≠k)).map (fun i=>(y::r).getD i 0)=_
  rw[cr,bh,List.filter_map]
  cases k with
  |zero=>
   rw[if_neg (by simp),aJ,bF.mpr (fun a _=>by simp)]
   show(ad r.length).map (fun i=>r.getD i 0)=r
   apply bi
   ·simp
   ·intro i h1 h2
    simp[aZ,ac h2]
  |succ k=>
   rw[if_pos (by simp),aC,aJ]
   show y::_=y::r.eraseIdx k
   rw[←z7R (r:=r) (k:=k) (by simpa using h)]
   congr 1
   show((ad r.length).filter _).map (fun i=>r.getD i 0)=_
   congr 1
   apply bC
   intro i _
   simp
theorem y5K{th:List Nat}{f:Nat->Nat->Bool}{i j:Nat}(hi:i<th.length)(hj:j<th.length):at2 (z0O th f) i j=f (th.getD i 0) (th.getD j 0):=by
 unfold at2 z0O
 simp[aZ,ac hi,ac hj]
theorem y8F{th:List Nat}{T:List (List Bool)}{is:List Nat}(h:∀i∈is,i<th.length):z0O is (at2 (z0O th (at2 T)))=z0O (is.map fun i=>th.getD i 0) (at2 T):=by
 show is.map (fun i=>is.map fun j=>at2 (z0O th (at2 T)) i j)=(is.map fun i=>th.getD i 0).map fun i=>(is.map fun i=>th.getD i 0).map fun j=>at2 T i j
 rw[aJ]
 apply bp
 intro i hi
 show is.map (fun j=>at2 (z0O th (at2 T)) i j)=(is.map fun i=>th.getD i 0).map fun j=>at2 T (th.getD i 0) j
 rw[aJ]
 apply bp
 intro j hj
 exact y5K (h i hi) (h j hj)
theorem z8J{th:List Nat}{T:List (List Bool)}(hl:th.length≤1000){no:List Nat}:z1w [z0G (z0O th (at2 T)),thD no]=some (z0G (z0O (((ad th.length).filter fun i=>!no.contains i).map fun i=>th.getD i 0) (at2 T))):=by
 refine z0s rfl ?_
 have sq:=z7S (th:=th) (f:=at2 T)
 have cx:z2c (some (z2h 0 th.length)) (z1N (z0H (d2 x1T (z0c 2) (z0c 1))) (z0c 2) [some (z0G (z0O th (at2 T))),some (thD no)])=some (((ad th.length).filter fun i=>!no.contains i).map nD):=by
  rw[z1l]
  exact z8C (fun i=>!no.contains i) nD (by simp;omega) (fun i hi=>by simp! only[nD,nin_ths]) fun i hi _=>by simp! only[]
 have hm:∀i∈(ad th.length).filter fun i=>!no.contains i,i<th.length:=fun i hi=>ak.mp (ag.mp hi).1
 have p:=y8J sq (th:=(ad th.length).filter fun i=>!no.contains i) (by have:=aX (fun i=>!no.contains i) (ad th.length);rw[aW]at this;omega) hm
 rw[y8F hm]at p
 simp! only[z7k,z2C,sq.1,z1J (show th.length≤1000000 by omega),cx,y1j,p,z0d]
theorem y6t{x k:Nat}{r:List Nat}{T:List (List Bool)}(hl:r.length≤900)(hk:k<r.length):z1w [z0G (z0O (x::r) (at2 T)),.lst [.int 0,.int ((k:Int)+1)]]=some (z0G (z0O (r.eraseIdx k) (at2 T))):=by
 have w:=z8J (th:=x::r) (T:=T) (by simp;omega) (no:=[0,k+1])
 have e:((ad (x::r).length).filter fun i=>!([0,k+1]:List Nat).contains i).map (fun i=>(x::r).getD i 0)=r.eraseIdx k:=by
  show((ad (r.length+1)).filter fun i=>!([0,k+1]:List Nat).contains i).map (fun i=>(x::r).getD i 0)=_
  rw[cr,bh,if_neg (by simp),List.filter_map,aJ,←z7R hk]
  have hf:(ad r.length).filter ((fun i=>!([0,k+1]:List Nat).contains i)∘Nat.succ)=(ad r.length).filter fun i=>decide (i≠k):=bC fun i _=>by simp
  rw[hf]
  rfl
 rw[e]at w
 exact w
theorem y8B{T:List (List Bool)}:∀{n c:Nat} {th:List Nat},n≤12->th.length≤8->th.length=2*c->c<n->z1z n [z0G (z0O th (at2 T))]=some (.int (pfS T n th))
 |0,_,_,_,_,_,h=>by omega
 |n+1,c,[],_,_,_,_=>by
  refine z0s rfl ?_
  have l0:z2t [z0G (z0O [] (at2 T))]=some (.int 0):=rfl
  simp_all! only[z2r,l0,z0d]
  rfl
 |n+1,c,x::r,hn,h8,hc,hcn=>by
  refine z0s rfl ?_
  have hr:r.length+1=2*c:=hc
  have h8:r.length+1≤8:=h8
  have l0:z2t [z0G (z0O (x::r) (at2 T))]=some (.int ((r.length:Int)+1)):=by
   rw[z2C,(z7S (th:=x::r) (f:=at2 T)).1]
   rfl
  have d0:decide ((r.length:Int)+1=0)=false:=decide_eq_false (by omega)
  have rn:rng2 (some (.int 1)) (some (.int ((r.length:Int)+1)))=some (z2h 1 r.length):=by
   rw[eo_rng2 (by omega)]
   congr 2
   omega
  obtain⟨f,hf⟩:∃f:Nat->Int,f=fun k=>sg k*sgn T x (r.getD k 0)*pfS T n (r.eraseIdx k):=⟨_,rfl⟩
  simp_all! only[z2r,l0,d0,rn]
  refine z0z (I:=fun s=>∃o2,s=[some (.sh (z0G (z0O (x::r) (at2 T)))),some (.sh (.int ((ad r.length).map f).sum)),o2]) ?_ ?_
  ·refine z7n (fun k s=>∃o2,s=[some (.sh (z0G (z0O (x::r) (at2 T)))),some (.sh (.int ((ad k).map f).sum)),o2]) ⟨_,rfl⟩ ?_ fun s z=>⟨s,rfl,z⟩
   rintro k hk s ⟨o2,rfl⟩
   have e1:(1:Int)+(k:Int)=(k:Int)+1:=by omega
   have e2:(k:Int)+1 - 1=(k:Int):=by omega
   have hel:(r.eraseIdx k).length=2*(c - 1):=by rw[bf,if_pos hk];omega
   have ps:=y8B (T:=T) (n:=n) (c:=c - 1) (th:=r.eraseIdx k) (by omega) (by omega) hel (by omega)
   have b:=y0v (T:=T) (n:=n) (L:=r.eraseIdx k) (by omega)
   have h12:(8 ^ n:Int)≤8 ^ 12:=by
    have h:=fq (n:=8) (by omega) (show n≤12 by omega)
    have e:((8 ^ n:Nat):Int)=8 ^ n:=Int.natCast_pow 8 n
    omega
   have sc:-1≤sg k*sgn T x (r.getD k 0)∧sg k*sgn T x (r.getD k 0)≤1:=by
    rcases z6u k with h | h <;> rcases z6h T x (r.getD k 0)with h' | h' <;> rw[h,h'] <;> omega
   have s1:-1≤sg k∧sg k≤1:=by rcases z6u k with h | h <;> rw[h] <;> omega
   have s2:-1≤sgn T x (r.getD k 0)∧sgn T x (r.getD k 0)≤1:=by rcases z6h T x (r.getD k 0)with h | h <;> rw[h] <;> omega
   have m1:=y3X (i:=sg k) (j:=sgn T x (r.getD k 0)) (by omega) (by omega)
   have m2:=y3X (i:=sg k*sgn T x (r.getD k 0)) (j:=pfS T n (r.eraseIdx k)) (by omega) (by omega)
   have es:((ad (k+1)).map f).sum=((ad k).map f).sum+sg k*sgn T x (r.getD k 0)*pfS T n (r.eraseIdx k):=by
    rw[ci,aF,cg,hf]
    simp
   rw[es]
   simp_all! only[e1,e2,y5x,sign_eq rfl hk,y6t (x:=x) (T:=T) (show r.length≤900 by omega) hk,ps,m1,m2,z0d]
   exact⟨_,rfl⟩
  ·rintro s ⟨o2,rfl⟩
   simp! only[z0d,hf]
   rfl
theorem y9y{α:Type}{f:α->Int}{c:Int}:∀{l:List α},(l.map fun x=>c*f x).sum=c*(l.map f).sum
 |[]=>by simp
 |x::l=>by rw[aC,bI,y9y,aC,bI,Int.mul_add]
def Ex(s:Nat->Nat->Int)(x:Nat):(List Nat->Int)->List Nat->Int
 |_,[]=>0
 |F,y::r=>s x y*F r - Ex s x (fun l=>F (y::l)) r
theorem x1q{s:Nat->Nat->Int}{x:Nat}{c:Int}:∀{l:List Nat} {F G:List Nat->Int},Ex s x (fun l=>c*F l - G l) l=c*Ex s x F l - Ex s x G l
 |[],F,G=>by show(0:Int)=c*0 - 0;omega
 |y::r,F,G=>by
  show s x y*(c*F r - G r) - Ex s x (fun l=>c*F (y::l) - G (y::l)) r=c*(s x y*F r - Ex s x (fun l=>F (y::l)) r) - (s x y*G r - Ex s x (fun l=>G (y::l)) r)
  rw[x1q (F:=fun l=>F (y::l)) (G:=fun l=>G (y::l)),Int.mul_sub,Int.mul_sub,Int.mul_left_comm]
  omega
theorem x0d{s:Nat->Nat->Int}{x:Nat}:∀{l:List Nat} {F G:List Nat->Int},(∀l,F l = -G l)->Ex s x F l = -Ex s x G l
 |[],F,G,_=>by show(0:Int) = -0;omega
 |y::r,F,G,h=>by
  show s x y*F r - Ex s x (fun l=>F (y::l)) r = -(s x y*G r - Ex s x (fun l=>G (y::l)) r)
  rw[x0d (F:=fun l=>F (y::l)) (G:=fun l=>G (y::l)) fun l=>h (y::l),h r,Int.mul_neg]
  omega
theorem y7c{s:Nat->Nat->Int}{x:Nat}{F:List Nat->Int}{l:List Nat}(h:∀l,F l=0):Ex s x F l=0:=by
 have:=x0d (s:=s) (x:=x) (l:=l) (F:=F) (G:=F) fun l=>by rw[h l];rfl
 omega
theorem y7e{s:Nat->Nat->Int}{a b:Nat}:∀{l:List Nat} {F:List Nat->Int},Ex s a (Ex s b F) l = -Ex s b (Ex s a F) l
 |[],F=>by show(0:Int) = -0;omega
 |y::r,F=>by
  show s a y*Ex s b F r - Ex s a (fun l=>s b y*F l - Ex s b (fun l=>F (y::l)) l) r = -(s b y*Ex s a F r - Ex s b (fun l=>s a y*F l - Ex s a (fun l=>F (y::l)) l) r)
  rw[x1q,x1q,y7e (F:=fun l=>F (y::l))]
  omega
def Pf(s:Nat->Nat->Int):Nat->List Nat->Int
 |_,[]=>1
 |0,_::_=>0
 |n+1,x::r=>Ex s x (Pf s n) r
def Alt(F:List Nat->Int):Prop:=∀A a b Q,F (A++a::b::Q) = -F (A++b::a::Q)
theorem x5i{s:Nat->Nat->Int}{x:Nat}:∀{A:List Nat} {F:List Nat->Int},Alt F->∀a b Q,Ex s x F (A++a::b::Q) = -Ex s x F (A++b::a::Q)
 |[],F,h,a,b,Q=>by
  show s x a*F (b::Q) - (s x b*F (a::Q) - Ex s x (fun l=>F (a::b::l)) Q) = -(s x b*F (a::Q) - (s x a*F (b::Q) - Ex s x (fun l=>F (b::a::l)) Q))
  rw[x0d (F:=fun l=>F (a::b::l)) (G:=fun l=>F (b::a::l)) fun l=>h [] a b l]
  omega
 |y::A,F,h,a,b,Q=>by
  show s x y*F (A++a::b::Q) - Ex s x (fun l=>F (y::l)) (A++a::b::Q) = -(s x y*F (A++b::a::Q) - Ex s x (fun l=>F (y::l)) (A++b::a::Q))
  rw[x5i (A:=A) (F:=fun l=>F (y::l)) (fun B c d R=>h (y::B) c d R),h A a b Q,Int.mul_neg]
  omega
theorem x4Y{s:Nat->Nat->Int}(sk:∀a b,s a b = -s b a):∀n,Alt (Pf s n)
 |0,A,a,b,Q=>by
  have z:∀c d,Pf s 0 (A++c::d::Q)=0:=fun c d=>by cases A <;> rfl
  rw[z,z]
  rfl
 |n+1,x::A,a,b,Q=>x5i (x4Y sk n) a b Q
 |n+1,[],a,b,Q=>by
  show s a b*Pf s n Q - Ex s a (fun l=>Pf s n (b::l)) Q = -(s b a*Pf s n Q - Ex s b (fun l=>Pf s n (a::l)) Q)
  have:Ex s a (fun l=>Pf s n (b::l)) Q = -Ex s b (fun l=>Pf s n (a::l)) Q:=by
   cases n with
   |zero=>
    rw[y7c (F:=fun l=>Pf s 0 (b::l)) fun l=>rfl,y7c (F:=fun l=>Pf s 0 (a::l)) fun l=>rfl]
    rfl
   |succ n=>exact y7e (F:=Pf s n)
  rw[this,sk a b,dU]
  omega
theorem y7n{F:List Nat->Int}(h:Alt F){i:Nat}:∀(n:Nat) {A B:List Nat},A.length=n->F (i::A++i::B)=0
 |0,A,B,hA=>by
  have:A=[]:=aS.mp hA
  subst this
  have:=h [] i i B
  show F (i::i::B)=0
  have h2:F (i::i::B) = -F (i::i::B):=this
  omega
 |n+1,A,B,hA=>by
  have hne:A≠[]:=fun z=>by rw[z]at hA;simp at hA
  obtain⟨A',y,rfl⟩:∃A' y,A=A'++[y]:=⟨A.dropLast,A.getLast hne,(List.dropLast_concat_getLast hne).symm⟩
  have e1:i::(A'++[y])++i::B=(i::A')++y::i::B:=by simp
  rw[e1,h (i::A') y i B,y7n h n (A:=A') (B:=y::B) (by simpa using hA)]
  rfl
theorem x1t{s:Nat->Nat->Int}(sk:∀a b,s a b = -s b a){n i:Nat}{L:List Nat}(h:i∈L):Ex s i (Pf s n) L=0:=by
 obtain⟨A,B,rfl⟩:=fB h
 exact y7n (x4Y sk (n+1)) _ rfl
theorem sg_succ{k:Nat}:sg (k+1) = -sg k:=by rw[sg_add];show sg k*(-1)=_;omega
theorem y7d{s:Nat->Nat->Int}{x:Nat}:∀{r:List Nat} {F:List Nat->Int},Ex s x F r=((ad r.length).map fun k=>sg k*s x (r.getD k 0)*F (r.eraseIdx k)).sum
 |[],F=>rfl
 |y::r,F=>by
  show s x y*F r - Ex s x (fun l=>F (y::l)) r=((ad (r.length+1)).map fun k=>sg k*s x ((y::r).getD k 0)*F ((y::r).eraseIdx k)).sum
  rw[cr,aC,bI,aJ,y7d (r:=r)]
  have e:((ad r.length).map ((fun k=>sg k*s x ((y::r).getD k 0)*F ((y::r).eraseIdx k))∘Nat.succ)).sum = -((ad r.length).map fun k=>sg k*s x (r.getD k 0)*F (y::r.eraseIdx k)).sum:=by
   have h1:((ad r.length).map ((fun k=>sg k*s x ((y::r).getD k 0)*F ((y::r).eraseIdx k))∘Nat.succ))=(ad r.length).map fun k=>-1*(sg k*s x (r.getD k 0)*F (y::r.eraseIdx k)):=by
    apply bp
    intro k _
    show sg (k+1)*s x (r.getD k 0)*F (y::r.eraseIdx k)=_
    rw[sg_succ,dU,dU]
    omega
   rw[h1,y9y]
   omega
  rw[e]
  show _=1*s x y*F r+_
  rw[Int.one_mul]
  omega
def sk2(T:List (List Bool))(m i j:Nat):Int:=if i<m∧j<m then(if at2 T i j=true then 1 else 0) - (if at2 T j i=true then 1 else 0)else 0
theorem z9R{T:List (List Bool)}{m:Nat}(a b:Nat):sk2 T m a b = -sk2 T m b a:=by
 unfold sk2
 by_cases h:a<m∧b<m
 ·rw[if_pos h,if_pos (show b<m∧a<m from⟨h.2,h.1⟩)];omega
 ·rw[if_neg h,if_neg (show ¬(b<m∧a<m) from fun z=>h ⟨z.2,z.1⟩)];rfl
theorem sk2_sgn{T:List (List Bool)}{m:Nat}(F:Full m T){i j:Nat}(hi:i<m)(hj:j<m)(h:i≠j):sgn T i j=sk2 T m i j:=by
 unfold sgn sk2
 rw[if_pos (show i<m∧j<m from⟨hi,hj⟩)]
 have:=F.two i hi j hj h
 cases h1:at2 T i j <;> cases h2:at2 T j i <;> rw[h1,h2]at this <;> first | rfl | cases this
theorem y2p{T:List (List Bool)}{m:Nat}(F:Full m T):∀{n c:Nat} {L:List Nat},L.Nodup->(∀x∈L,x<m)->L.length=2*c->c≤n->pfS T n L=Pf (sk2 T m) n L
 |0,c,L,_,_,hl,hc=>by
  have:L=[]:=aS.mp (by omega)
  subst this
  rfl
 |n+1,c,[],_,_,_,_=>rfl
 |n+1,c,x::r,nd,hlt,hl,hc=>by
  have nd':=aw.mp nd
  have hr:r.length+1=2*c:=hl
  show((ad r.length).map fun k=>sg k*sgn T x (r.getD k 0)*pfS T n (r.eraseIdx k)).sum=Ex (sk2 T m) x (Pf (sk2 T m) n) r
  rw[y7d]
  refine z8i fun k hk=>?_
  have hk:=ak.mp hk
  have hy:r.getD k 0∈r:=by
   rw[aB,ac hk]
   exact bT hk
  rw[sk2_sgn F (hlt x af) (hlt _ (ae _ hy)) fun z=>nd'.1 (z ▸ hy),y2p F (n:=n) (c:=c - 1) (nd'.2.sublist (cB r k)) (fun z hz=>hlt z (ae _ (bw hz))) (by rw[bf,if_pos hk];omega) (by omega)]
def x2a(T:List (List Bool))(m:Nat):List Int:=(ad m).map fun k=>sg k*pfS T 12 ((ad m).eraseIdx k)
theorem y8z{T:List (List Bool)}{m:Nat}:(x2a T m).length=m:=by simp[x2a]
theorem ker_at{T:List (List Bool)}{m k:Nat}(hk:k<m):(x2a T m).getD k 0=sg k*pfS T 12 ((ad m).eraseIdx k):=by
 unfold x2a
 simp[aZ,ac,hk]
theorem x0B{T:List (List Bool)}{ws:List Int}{m i:Nat}(hi:i<m):∀{n:Nat},n≤m->scr T ws n i=((ad n).map fun j=>sk2 T m i j*ws.getD j 0).sum
 |0,_=>rfl
 |n+1,hn=>by
  have ih:=x0B (T:=T) (ws:=ws) hi (n:=n) (by omega)
  unfold scr at ih ⊢
  rw[y1I,y1I,ci,aF,cg,←ih]
  have e:((([n]:List Nat).map fun j=>sk2 T m i j*ws.getD j 0)).sum=sk2 T m i n*ws.getD n 0:=by simp
  rw[e]
  unfold sk2
  rw[if_pos (show i<m∧n<m from⟨hi,by omega⟩)]
  cases at2 T i n <;> cases at2 T n i <;> simp <;> omega
theorem wo1_eq{m k:Nat}{T:List (List Bool)}(sq:Sq m T)(hm:m≤1000)(hk:k<m):z1w [z0G T,.lst [.int (k:Int)]]=some (z0G (z0O ((ad m).eraseIdx k) (at2 T))):=by
 have w:=z8J (th:=ad m) (T:=T) (by simpa using hm) (no:=[k])
 rw[grid_of sq,aW]at w
 have e:((ad m).filter fun i=>!([k]:List Nat).contains i).map (fun i=>(ad m).getD i 0)=(ad m).eraseIdx k:=by
  have h:=z7R (r:=ad m) (k:=k) (by simpa using hk)
  rw[aW]at h
  rw[←h]
  have hf:(ad m).filter (fun i=>!([k]:List Nat).contains i)=(ad m).filter fun i=>decide (i≠k):=bC fun i _=>by simp
  rw[hf]
 rw[e]at w
 exact w
theorem x2E{m c k:Nat}{T:List (List Bool)}(hm:m=2*c+1)(hc:c≤3)(hk:k<m):z1I [z0G (z0O ((ad m).eraseIdx k) (at2 T))]=some (.int (pfS T 12 ((ad m).eraseIdx k))):=by
 have hel:((ad m).eraseIdx k).length=2*c:=by rw[bf,aW,if_pos hk];omega
 exact y8B (by omega) (by omega) hel (by omega)
theorem y7V{m c:Nat}{T:List (List Bool)}(sq:Sq m T)(hm:m=2*c+1)(hc:c≤3):z6S [z0G T]=some (z4H (x2a T m)):=by
 refine z0s rfl ?_
 have cx:z2c (some (z2h 0 m)) (z1N z3p (d2 mulB (z0k z0N [z0c 1]) (z0k z1I [z0k z1w [z0c 0,mkL (z0m [z0c 1])]])) [some (z0G T)])=some ((x2a T m).map .int):=by
  rw[z1l,z5l (fun k=>D.int (sg k*pfS T 12 ((ad m).eraseIdx k))) (by simp;omega) fun k hk=>?_]
  ·unfold x2a
   rw[aJ]
   rfl
  ·have hk:=ak.mp hk
   have hel:((ad m).eraseIdx k).length=2*c:=by rw[bf,aW,if_pos hk];omega
   have b:=y0v (T:=T) (n:=12) (L:=(ad m).eraseIdx k) (by omega)
   have s1:-1≤sg k∧sg k≤1:=by rcases z6u k with h | h <;> rw[h] <;> omega
   have m1:=y3X (i:=sg k) (j:=pfS T 12 ((ad m).eraseIdx k)) (by omega) (by omega)
   simp! only[nD,y5x,wo1_eq sq (show m≤1000 by omega) hk,x2E hm hc hk,m1]
 simp! only[z9z,z2C,sq.1,z1J (show m≤1000000 by omega),cx,flat_in,lst_in,z0d]
abbrev Vc:=Nat->Int
inductive Cn(A:List Vc):Vc->Prop where
 |one {a:Vc}:a∈A->Cn A a
 |add {u v:Vc}:Cn A u->Cn A v->Cn A (fun i=>u i+v i)
def z0Q:Nat->Vc->Vc->Int
 |0,_,_=>0
 |n+1,y,a=>z0Q n y a+y n*a n
theorem z9t{y u v:Vc}:∀{n:Nat},z0Q n y (fun i=>u i+v i)=z0Q n y u+z0Q n y v
 |0=>rfl
 |n+1=>by
  unfold z0Q
  rw[z9t]
  grind
theorem z4R{y u:Vc}{c:Int}:∀{n:Nat},z0Q n y (fun i=>c*u i)=c*z0Q n y u
 |0=>by simp[z0Q]
 |n+1=>by
  unfold z0Q
  rw[z4R]
  grind
theorem y4B{y u:Vc}{c:Int}:∀{n:Nat},z0Q n (fun i=>c*y i) u=c*z0Q n y u
 |0=>by simp[z0Q]
 |n+1=>by
  unfold z0Q
  rw[y4B]
  grind
theorem z5e{y y' u u':Vc}:∀{n:Nat},(∀i,i<n->y i=y' i)->(∀i,i<n->u i=u' i)->z0Q n y u=z0Q n y' u'
 |0,_,_=>rfl
 |n+1,h,h'=>by
  unfold z0Q
  rw[z5e (fun i hi=>h i (by omega)) fun i hi=>h' i (by omega),h n (by omega),h' n (by omega)]
theorem x5e{A:List Vc}{u:Vc}(h:Cn A u):∀k:Nat,Cn A (fun i=>((k:Int)+1)*u i)
 |0=>by
  have e:(fun i=>(((0:Nat):Int)+1)*u i)=u:=funext fun i=>by simp
  rw[e]
  exact h
 |k+1=>by
  have e:(fun i=>(((k+1:Nat):Int)+1)*u i)=fun i=>((k:Int)+1)*u i+u i:=funext fun i=>by grind
  rw[e]
  exact .add (x5e h k) h
theorem x4X{A:List Vc}{u:Vc}(h:Cn A u){c:Int}(hc:0<c):Cn A (fun i=>c*u i):=by
 obtain⟨k,rfl⟩:∃k:Nat,c=(k:Int)+1:=⟨(c - 1).toNat,by omega⟩
 exact x5e h k
def stepV(m:Nat)(A:List Vc):List Vc:=A.filter (fun a=>decide (a m≤0))++(A.filter fun a=>decide (0<a m)).flatMap fun p=>(A.filter fun a=>decide (a m<0)).map fun q=>fun i=>-(q m)*p i+p m*q i
theorem cn_step{m:Nat}{A:List Vc}{v:Vc}(h:Cn (stepV m A) v):Cn A v∧v m≤0:=by
 induction h with
 |one ha=>
  rcases au.mp ha with h | h
  ·obtain⟨h1,h2⟩:=ag.mp h
   exact⟨.one h1,of_decide_eq_true h2⟩
  ·obtain⟨p,hp,h⟩:=List.mem_flatMap.mp h
   obtain⟨q,hq,rfl⟩:=aP.mp h
   obtain⟨p1,p2⟩:=ag.mp hp
   obtain⟨q1,q2⟩:=ag.mp hq
   have p2:=of_decide_eq_true p2
   have q2:=of_decide_eq_true q2
   refine⟨.add (x4X (.one p1) (by omega)) (x4X (.one q1) p2),?_⟩
   grind
 | @add u v _ _ h1 h2=>exact⟨.add h1.1 h2.1,by have:=h1.2;have:=h2.2;show u m+v m≤0;omega⟩
theorem y2w:∀(l:List (Int×Int)),l≠[]->(∀x∈l,0<x.2)->∃b∈l,∀x∈l,x.1*b.2≤b.1*x.2
 |[],h,_=>absurd rfl h
 |[x],_,_=>⟨x,af,fun y hy=>by rw[aq.mp hy];omega⟩
 |x::y::r,_,hp=>by
  obtain⟨b,hb,h⟩:=y2w (y::r) (by simp) fun z hz=>hp z (ae _ hz)
  have hb2:=hp b (ae _ hb)
  have hx2:=hp x af
  by_cases c:x.1*b.2≤b.1*x.2
  ·refine⟨b,ae _ hb,fun z hz=>?_⟩
   rcases ao.mp hz with rfl | hz
   ·exact c
   ·exact h z hz
  ·refine⟨x,af,fun z hz=>?_⟩
   rcases ao.mp hz with rfl | hz
   ·omega
   ·have h1:=h z hz
    have hz2:=hp z (ae _ hz)
    have h2:z.1*b.2*x.2≤b.1*z.2*x.2:=cF h1 (by omega)
    have h3:b.1*x.2*z.2≤x.1*b.2*z.2:=cF (by omega) (by omega)
    have h4:z.1*x.2*b.2≤x.1*z.2*b.2:=by grind
    exact Int.le_of_mul_le_mul_right h4 hb2
theorem y9x:∀(m:Nat) (A:List Vc),∃K:Int,0<K∧∀a∈A,-(a m)<K
 |_,[]=>⟨1,by decide,fun _ h=>nomatch h⟩
 |m,a::r=>by
  obtain⟨K,h1,h2⟩:=y9x m r
  refine⟨K+(if 0 < -(a m)then -(a m)else 0),by split <;> omega,fun b hb=>?_⟩
  rcases ao.mp hb with rfl | hb
  ·split <;> omega
  ·have:=h2 b hb
   split <;> omega
theorem ville:∀(m:Nat) (A:List Vc),(∃v,Cn A v∧∀i,i<m->v i≤0)∨∃y:Vc,(∀i,i<m->0≤y i)∧∀a∈A,0<z0Q m y a
 |0,[]=>.inr ⟨fun _=>0,fun _ h=>(by omega),fun _ h=>nomatch h⟩
 |0,a::r=>.inl ⟨a,.one af,fun _ h=>(by omega)⟩
 |m+1,A=>by
  rcases ville m (stepV m A)with⟨v,hv,h⟩ | ⟨y,y0,hy⟩
  ·obtain⟨h1,h2⟩:=cn_step hv
   refine .inl ⟨v,h1,fun i hi=>?_⟩
   by_cases e:i=m
   ·subst e;exact h2
   ·exact h i (by omega)
  ·have hn:∀a∈A,a m≤0->0<z0Q m y a:=fun a ha h=>hy a (au.mpr (.inl (ag.mpr ⟨ha,decide_eq_true h⟩)))
   have hpq:∀p∈A,∀q∈A,0<p m->q m<0->0 < -(q m)*z0Q m y p+p m*z0Q m y q:=fun p hp q hq h1 h2=>by
    have:=hy (fun i=>-(q m)*p i+p m*q i) (au.mpr (.inr (List.mem_flatMap.mpr ⟨p,ag.mpr ⟨hp,decide_eq_true h1⟩,aP.mpr ⟨q,ag.mpr ⟨hq,decide_eq_true h2⟩,rfl⟩⟩)))
    rwa [z9t (u:=fun i=>-(q m)*p i) (v:=fun i=>p m*q i),z4R,z4R]at this
   by_cases hP:∃p∈A,0<p m∧z0Q m y p≤0
   ·obtain⟨p0,hp0,hp1,hp2⟩:=hP
    obtain⟨b,hb,hbest⟩:=y2w ((A.filter fun a=>decide (0<a m)).map fun a=>(-(z0Q m y a),a m)) (by
     intro e
     have:(-(z0Q m y p0),p0 m)∈(A.filter fun a=>decide (0<a m)).map fun a=>(-(z0Q m y a),a m):=aP.mpr ⟨p0,ag.mpr ⟨hp0,decide_eq_true hp1⟩,rfl⟩
     rw[e]at this
     cases this) (fun x hx=>by
     obtain⟨a,ha,rfl⟩:=aP.mp hx
     exact of_decide_eq_true (ag.mp ha).2)
    obtain⟨pb,hpb,rfl⟩:=aP.mp hb
    obtain⟨hb1,hb2⟩:=ag.mp hpb
    have hb2:=of_decide_eq_true hb2
    have hq:∀p∈A,0<p m->-(z0Q m y p)*pb m≤-(z0Q m y pb)*p m:=fun p hp h=>hbest (-(z0Q m y p),p m) (aP.mpr ⟨p,ag.mpr ⟨hp,decide_eq_true h⟩,rfl⟩)
    have ha0:0≤-(z0Q m y pb):=by
     have h1:=hq p0 hp0 hp1
     have h2:0≤-(z0Q m y p0)*pb m:=bK (by omega) (by omega)
     by_cases z:0≤-(z0Q m y pb)
     ·exact z
     ·have h3:=Int.mul_neg_of_neg_of_pos (show -(z0Q m y pb)<0 by omega) hp1
      omega
    obtain⟨K,k0,hK⟩:=y9x m A
    obtain⟨al,hal⟩:∃al,al = -(z0Q m y pb):=⟨_,rfl⟩
    obtain⟨rb,hrb⟩:∃rb,rb=pb m:=⟨_,rfl⟩
    rw[←hal]at ha0 hq
    rw[←hrb]at hb2 hq
    refine .inr ⟨fun i=>if i=m then K*al+1 else K*rb*y i,fun i hi=>?_,fun a ha=>?_⟩
    ·show 0≤if i=m then K*al+1 else K*rb*y i
     have h1:=bK (show 0≤K by omega) ha0
     split
     ·omega
     ·exact bK (bK (by omega) (by omega)) (y0 i (by omega))
    ·show 0<z0Q m _ a+(if m=m then K*al+1 else K*rb*y m)*a m
     rw[if_pos rfl,z5e (y':=fun i=>K*rb*y i) (u':=a) (fun i hi=>if_neg (by omega)) (fun _ _=>rfl),y4B]
     obtain⟨d,hd⟩:∃d,d=z0Q m y a:=⟨_,rfl⟩
     have kr:=cV k0 hb2
     by_cases h1:0<a m
     ·have h2:=hq a ha h1
      rw[←hd]at h2 ⊢
      have h3:0≤K*(al*a m - -d*rb):=bK (by omega) (by omega)
      grind
     ·by_cases h2:a m=0
      ·have h3:=hn a ha (by omega)
       rw[←hd]at h3 ⊢
       have:=cV kr h3
       rw[h2]
       omega
      ·have h3:=hpq pb hb1 a ha (by omega) (by omega)
       have h4:=hK a ha
       rw[←hd,←hrb,show z0Q m y pb = -al by omega]at h3
       rw[←hd]
       have h5:K*1≤K*(-(a m) * -al+rb*d):=Int.mul_le_mul_of_nonneg_left (by omega) (by omega)
       grind
   ·have hP:∀p∈A,0<p m->0<z0Q m y p:=fun p hp h=>by
     by_cases z:0<z0Q m y p
     ·exact z
     ·exact absurd ⟨p,hp,h,by omega⟩ hP
    refine .inr ⟨fun i=>if i=m then 0 else y i,fun i hi=>?_,fun a ha=>?_⟩
    ·show 0≤if i=m then 0 else y i
     split
     ·omega
     ·exact y0 i (by omega)
    ·show 0<z0Q m _ a+(if m=m then 0 else y m)*a m
     rw[if_pos rfl,z5e (y':=y) (u':=a) (fun i hi=>if_neg (by omega)) (fun _ _=>rfl),Int.zero_mul,Int.add_zero]
     by_cases h1:0<a m
     ·exact hP a ha h1
     ·exact hn a ha (by omega)
theorem y0E{a:Vc}:∀{n:Nat} {y:Vc},(∀i,i<n->y i=0)->z0Q n y a=0
 |0,_,_=>rfl
 |n+1,y,h=>by
  unfold z0Q
  rw[y0E (n:=n) fun i hi=>h i (by omega),h n (by omega),Int.zero_mul]
  rfl
theorem y4t{y z a:Vc}:∀{n:Nat},z0Q n (fun i=>y i+z i) a=z0Q n y a+z0Q n z a
 |0=>rfl
 |n+1=>by
  unfold z0Q
  rw[y4t]
  grind
theorem x0m{a:Vc}{j:Nat}:∀{n:Nat},j<n->z0Q n (fun i=>if i=j then 1 else 0) a=a j
 |0,h=>by omega
 |n+1,h=>by
  unfold z0Q
  by_cases e:n=j
  ·subst e
   rw[y0E (n:=n) fun i hi=>if_neg (by omega)]
   show 0+(if n=n then 1 else 0)*a n=a n
   rw[if_pos rfl]
   omega
  ·rw[x0m (n:=n) (by omega)]
   show a j+(if n=j then 1 else 0)*a n=a j
   rw[if_neg e]
   omega
theorem z9h{x z:Vc}{a:Nat->Nat->Int}{n:Nat}:∀{m:Nat},z0Q m x (fun i=>z0Q n z (fun j=>a i j))=z0Q n z (fun j=>z0Q m x (fun i=>a i j))
 |0=>by
  show(0:Int)=z0Q n z fun _=>0
  have:=z4R (y:=z) (u:=fun _=>0) (c:=0) (n:=n)
  simp at this
  exact this.symm
 |m+1=>by
  show z0Q m x (fun i=>z0Q n z fun j=>a i j)+x m*z0Q n z (fun j=>a m j)=z0Q n z (fun j=>z0Q m x (fun i=>a i j)+x m*a m j)
  rw[z9h (m:=m),z9t (u:=fun j=>z0Q m x (fun i=>a i j)) (v:=fun j=>x m*a m j),z4R]
theorem y3d{y u:Vc}{n:Nat}:z0Q n y (fun i=>-u i) = -z0Q n y u:=by
 have:=z4R (y:=y) (u:=u) (c:=-1) (n:=n)
 have e:(fun i=>-1*u i)=fun i=>-u i:=funext fun i=>by omega
 rw[e]at this
 omega
theorem y5N{s:Nat->Nat->Int}(sk:∀a b,s a b = -s b a){m:Nat}{x:Vc}:z0Q m x (fun i=>z0Q m x (s i))=0:=by
 have h1:=z9h (x:=x) (z:=x) (a:=s) (n:=m) (m:=m)
 have e:(fun j=>z0Q m x (fun i=>s i j))=fun j=>-z0Q m x (s j):=funext fun j=>by
  rw[←y3d]
  exact z5e (fun _ _=>rfl) fun i _=>sk i j
 rw[e,y3d]at h1
 have h1:z0Q m x (fun i=>z0Q m x (s i)) = -z0Q m x (fun i=>z0Q m x (s i)):=h1
 omega
theorem y5t{a:Vc}:∀{n:Nat} {y:Vc},(∀i,i<n->0≤y i*a i)->0≤z0Q n y a∧∀i,i<n->y i*a i≤z0Q n y a
 |0,y,_=>⟨dc _,fun i hi=>by omega⟩
 |n+1,y,h=>by
  obtain⟨h1,h2⟩:=y5t (n:=n) fun i hi=>h i (by omega)
  have h3:=h n (by omega)
  refine⟨by unfold z0Q;omega,fun i hi=>?_⟩
  unfold z0Q
  by_cases e:i=n
  ·subst e;omega
  ·have:=h2 i (by omega)
   omega
theorem cn_coef{s:Nat->Nat->Int}{m:Nat}{v:Vc}(h:Cn ((ad m).map fun j=>fun i=>s i j) v):∃x:Vc,(∀i,0≤x i)∧(∃i,i<m∧0<x i)∧(∀i,m≤i->x i=0)∧∀i,v i=z0Q m x (s i):=by
 induction h with
 |one ha=>
  obtain⟨j,hj,rfl⟩:=aP.mp ha
  have hj:=ak.mp hj
  refine⟨fun i=>if i=j then 1 else 0,fun i=>by dsimp only;split <;> omega,⟨j,hj,by dsimp only;rw[if_pos rfl];omega⟩,fun i hi=>if_neg (by omega),fun i=>(x0m hj).symm⟩
 |add _ _ h1 h2=>
  obtain⟨x,a1,⟨i,hi,a2⟩,a3,a4⟩:=h1
  obtain⟨z,b1,_,b3,b4⟩:=h2
  refine⟨fun i=>x i+z i,fun i=>by have:=a1 i;have:=b1 i;dsimp only;omega,⟨i,hi,by have:=b1 i;dsimp only;omega⟩,fun i hi=>by dsimp only;rw[a3 i hi,b3 i hi];rfl,fun i=>?_⟩
  rw[y4t,←a4,←b4]
theorem y7x{s:Nat->Nat->Int}(sk:∀a b,s a b = -s b a){m:Nat}(hm:0<m):∃x:Vc,(∀i,0≤x i)∧(∃i,i<m∧0<x i)∧(∀i,i<m->z0Q m x (s i)≤0)∧∀i,i<m->0<x i->z0Q m x (s i)=0:=by
 rcases ville m ((ad m).map fun j=>fun i=>s i j)with⟨v,hv,h⟩ | ⟨y,y0,hy⟩
 ·obtain⟨x,h1,h2,h3,h4⟩:=cn_coef hv
  have hu:∀i,i<m->z0Q m x (s i)≤0:=fun i hi=>by rw[←h4];exact h i hi
  refine⟨x,h1,h2,hu,fun i hi hx=>?_⟩
  have h5:=y5N sk (m:=m) (x:=x)
  have h6:=y5t (n:=m) (y:=x) (a:=fun i=>-z0Q m x (s i)) fun i hi=>bK (h1 i) (by have:=hu i hi;omega)
  rw[y3d,h5]at h6
  have h7:=h6.2 i hi
  have h8:=hu i hi
  by_cases z:z0Q m x (s i)=0
  ·exact z
  ·have:=cV hx (show 0 < -z0Q m x (s i) by omega)
   have h7:x i * -z0Q m x (s i)≤-0:=h7
   omega
 ·have hy:∀j,j<m->0<z0Q m y (fun i=>s i j):=fun j hj=>hy _ (aP.mpr ⟨j,ak.mpr hj,rfl⟩)
  have h5:z0Q m y (fun j=>z0Q m y (fun i=>s i j))=0:=by
   rw[←z9h (x:=y) (z:=y) (a:=s) (n:=m) (m:=m)]
   exact y5N sk
  have h6:=y5t (n:=m) (y:=y) (a:=fun j=>z0Q m y (fun i=>s i j)) fun i hi=>bK (y0 i hi) (by have:=hy i hi;omega)
  rw[h5]at h6
  have hz:∀i,i<m->y i=0:=fun i hi=>by
   have h7:=h6.2 i hi
   have h8:=y0 i hi
   by_cases z:y i=0
   ·exact z
   ·have:=cV (show 0<y i by omega) (hy i hi)
    omega
  have:=hy 0 hm
  rw[y0E hz]at this
  omega
def z2e(L:List Nat)(f:Nat->Int):Int:=(L.map f).sum
theorem z0Z{a:Nat}{L:List Nat}{f:Nat->Int}:z2e (a::L) f=f a+z2e L f:=by unfold z2e;simp
theorem z4t{L:List Nat}{f g:Nat->Int}(h:∀x∈L,f x=g x):z2e L f=z2e L g:=by
 unfold z2e
 rw[bp h]
theorem y3R{L:List Nat}{f:Nat->Int}(h:∀x∈L,f x=0):z2e L f=0:=by
 induction L with
 |nil=>rfl
 |cons a r ih=>rw[z0Z,h a af,ih fun x hx=>h x (ae _ hx)];rfl
theorem x4u{L:List Nat}{f g:Nat->Int}:z2e L (fun x=>f x+g x)=z2e L f+z2e L g:=by
 induction L with
 |nil=>rfl
 |cons a r ih=>rw[z0Z,z0Z,z0Z,ih];omega
theorem ls_mul{L:List Nat}{f:Nat->Int}{c:Int}:z2e L (fun x=>c*f x)=c*z2e L f:=by
 induction L with
 |nil=>show(0:Int)=c*0;omega
 |cons a r ih=>rw[z0Z,z0Z,ih,Int.mul_add]
theorem ls_swap{L M:List Nat}{f:Nat->Nat->Int}:z2e L (fun a=>z2e M fun b=>f a b)=z2e M (fun b=>z2e L fun a=>f a b):=by
 induction L with
 |nil=>exact(y3R fun _ _=>rfl).symm
 |cons a r ih=>rw[z0Z,ih,←x4u];exact z4t fun b _=>(z0Z (f:=fun a=>f a b)).symm
theorem x0a{L M:List Nat}{f:Nat->Int}(h:L.Perm M):z2e L f=z2e M f:=by
 induction h with
 |nil=>rfl
 |cons x _ ih=>rw[z0Z,z0Z,ih]
 |swap x y l=>rw[z0Z,z0Z,z0Z,z0Z];omega
 |trans _ _ h1 h2=>rw[h1,h2]
theorem y1L{L:List Nat}{p:Nat->Bool}{f:Nat->Int}(h:∀x∈L,p x=false->f x=0):z2e (L.filter p) f=z2e L f:=by
 induction L with
 |nil=>rfl
 |cons a r ih=>
  have ih:=ih fun x hx=>h x (ae _ hx)
  rw[bh]
  cases e:p a with
  |true=>rw[if_pos rfl,z0Z,z0Z,ih]
  |false=>rw[if_neg ar,z0Z,ih,h a af e];omega
theorem x4o{y a:Vc}:∀{n:Nat},z0Q n y a=z2e (ad n) fun i=>y i*a i
 |0=>rfl
 |n+1=>by
  unfold z0Q
  rw[x4o (n:=n)]
  unfold z2e
  rw[ci,aF,cg]
  simp
section
variable{s:Nat->Nat->Int}{m:Nat}
def idx(S:List Nat)(t:Nat):Nat:=S.idxOf t
def vt(s:Nat->Nat->Int)(S:List Nat)(t:Nat):Int:=sg (idx S t)*Pf s 12 (S.eraseIdx (idx S t))
theorem x4t{S:List Nat}(nd:S.Nodup){k:Nat}(hk:k<S.length):idx S (S.getD k 0)=k:=by
 unfold idx
 rw[aB,ac hk]
 exact List.Nodup.idxOf_getElem nd k hk
theorem ls_idx{S:List Nat}{f:Nat->Int}:z2e S f=z2e (ad S.length) fun k=>f (S.getD k 0):=by
 unfold z2e
 congr 1
 apply bi
 ·simp
 ·intro i h1 h2
  have h1:i<S.length:=by simpa using h1
  simp[aZ,ac h1]
theorem x1O{S:List Nat}(nd:S.Nodup){i:Nat}:Ex s i (Pf s 12) S=z2e S fun t=>s i t*vt s S t:=by
 rw[y7d,ls_idx]
 unfold z2e
 congr 1
 apply bp
 intro k hk
 have hk:=ak.mp hk
 unfold vt
 rw[x4t nd hk]
 ac_rfl
structure OddPf(s:Nat->Nat->Int)(m:Nat):Prop where
 sk:∀a b,s a b = -s b a
 one:∀L:List Nat,L.Nodup->(∀x∈L,x<m)->L.length % 2=0->Pf s 12 L % 2=1
 two:∀(i:Nat) (R:List Nat),(i::R).Nodup->(∀x∈i::R,x<m)->R.length % 2=1->Ex s i (Pf s 12) R % 2=1
theorem y1p(O:OddPf s m){i:Nat}{R:List Nat}(nd:(i::R).Nodup)(hlt:∀x∈i::R,x<m)(hR:R.length % 2=1){z:Nat->Int}(h:∀y∈R,z2e (i::R) (fun t=>s y t*z t)=0):z i=0:=by
 have nd':=(aw.mp nd).2
 have hG:∀y∈R,z2e R (fun t=>s y t*vt s R t)=0:=fun y hy=>by rw[←x1O nd'];exact x1t O.sk hy
 have hi:=O.two i R nd hlt hR
 rw[x1O nd']at hi
 have e0:z2e R (fun y=>vt s R y*z2e (i::R) (fun t=>s y t*z t))=0:=y3R fun y hy=>by rw[h y hy];omega
 have e1:z2e R (fun y=>vt s R y*z2e (i::R) (fun t=>s y t*z t))=z2e (i::R) (fun t=>-(z t*z2e R (fun y=>s t y*vt s R y))):=by
  have a1:z2e R (fun y=>vt s R y*z2e (i::R) (fun t=>s y t*z t))=z2e R (fun y=>z2e (i::R) (fun t=>vt s R y*(s y t*z t))):=z4t fun y _=>ls_mul.symm
  rw[a1,ls_swap]
  refine z4t fun t _=>?_
  have a2:-(z t*z2e R (fun y=>s t y*vt s R y)) = -z t*z2e R (fun y=>s t y*vt s R y):=by rw[dU]
  rw[a2,←ls_mul]
  refine z4t fun y _=>?_
  rw[O.sk y t]
  grind
 have e2:z2e R (fun t=>-(z t*z2e R (fun y=>s t y*vt s R y)))=0:=y3R fun t ht=>by rw[hG t ht];omega
 rw[e1,z0Z,e2]at e0
 rcases d8.mp (show z i*z2e R (fun y=>s i y*vt s R y)=0 by omega)with h | h
 ·exact h
 ·rw[h]at hi
  cases hi
variable{x:Vc}
structure Ev(s:Nat->Nat->Int)(m:Nat)(x:Vc):Prop where
 nn:∀i,0≤x i
 some:∃i,i<m∧0<x i
 le:∀i,i<m->z0Q m x (s i)≤0
 eq:∀i,i<m->0<x i->z0Q m x (s i)=0
def z5J(m:Nat)(x:Vc):List Nat:=(ad m).filter fun i=>decide (0<x i)
theorem z9r:(z5J m x).Nodup:=List.nodup_range.filter _
theorem z7w:∀t∈z5J m x,t<m:=fun t ht=>ak.mp (ag.mp ht).1
theorem z6T:∀t∈z5J m x,0<x t:=fun t ht=>of_decide_eq_true (ag.mp ht).2
theorem y0r(nn:∀i,0≤x i){a:Vc}:z0Q m x a=z2e (z5J m x) fun t=>a t*x t:=by
 rw[x4o,show(fun i=>x i*a i)=fun t=>a t*x t from funext fun i=>c5 _ _]
 refine(y1L fun i _ hp=>?_).symm
 have:=of_decide_eq_false hp
 have:=nn i
 rw[show x i=0 by omega,Int.mul_zero]
theorem y8n(O:OddPf s m)(E:Ev s m x):(z5J m x).length % 2=1:=by
 have hne:z5J m x≠[]:=fun e=>by
  obtain⟨i,hi,hx⟩:=E.some
  have:i∈z5J m x:=ag.mpr ⟨ak.mpr hi,decide_eq_true hx⟩
  rw[e]at this
  cases this
 obtain⟨i,R,e⟩:∃i R,z5J m x=i::R:=by
  cases h:z5J m x with
  |nil=>exact absurd h hne
  |cons a r=>exact⟨a,r,rfl⟩
 have nd:=z9r (m:=m) (x:=x)
 have lt:=z7w (m:=m) (x:=x)
 have ps:=z6T (m:=m) (x:=x)
 by_cases hR:(z5J m x).length % 2=1
 ·exact hR
 ·have z:=y1p O (i:=i) (R:=R) (e ▸ nd) (e ▸ lt) (by rw[e,aY]at hR;omega) (z:=x) fun y hy=>by
   have hy':y∈z5J m x:=by rw[e];exact ae _ hy
   rw[←e,←y0r E.nn (a:=s y)]
   exact E.eq y (lt y hy') (ps y hy')
  have:=ps i (by rw[e];exact af)
  omega
theorem ev_prop(O:OddPf s m)(E:Ev s m x){a b:Nat}(ha:a∈z5J m x)(hb:b∈z5J m x):vt s (z5J m x) b*x a=x b*vt s (z5J m x) a:=by
 by_cases hab:a=b
 ·subst hab;exact c5 _ _
 ·have nd:=z9r (m:=m) (x:=x)
  have lt:=z7w (m:=m) (x:=x)
  have ps:=z6T (m:=m) (x:=x)
  have od:=y8n O E
  obtain⟨S,hS⟩:∃S,S=z5J m x:=⟨_,rfl⟩
  rw[←hS]at ha hb nd lt ps od ⊢
  have p1:S.Perm (a::S.erase a):=fg ha
  have hb':b∈S.erase a:=(List.mem_erase_of_ne (Ne.symm hab)).mpr hb
  have p2:S.Perm (b::a::(S.erase a).erase b):=(p1.trans ((fg hb').cons a)).trans (.swap _ _ _)
  have nd2:(b::a::(S.erase a).erase b).Nodup:=p2.nodup_iff.mp nd
  have z:=y1p O (i:=a) (R:=(S.erase a).erase b) (aw.mp nd2).2 (fun t ht=>lt t (p2.mem_iff.mpr (ae _ ht))) (by
   have:=p2.length_eq
   simp only[aY]at this
   omega) (z:=fun t=>vt s S b*x t - x b*vt s S t) fun y hy=>by
    have hyS:y∈S:=p2.mem_iff.mpr (ae _ (ae _ hy))
    have e1:z2e S (fun t=>s y t*(vt s S b*x t - x b*vt s S t))=0:=by
     have a1:(fun t=>s y t*(vt s S b*x t - x b*vt s S t))=fun t=>vt s S b*(s y t*x t) + -x b*(s y t*vt s S t):=funext fun t=>by grind
     rw[a1,x4u,ls_mul,ls_mul,←x1O nd,x1t O.sk hyS]
     have a2:=E.eq y (lt y hyS) (ps y hyS)
     rw[y0r E.nn,←hS]at a2
     rw[a2]
     omega
    rw[x0a p2,z0Z]at e1
    have e2:s y b*(vt s S b*x b - x b*vt s S b)=0:=by
     rw[c5 (vt s S b)]
     simp
    omega
  omega
theorem ev_ker(O:OddPf s m)(E:Ev s m x):∃ε:Int,(ε=1∨ε = -1)∧(∀t∈z5J m x,0<ε*vt s (z5J m x) t)∧(∀i,i<m->i∉z5J m x->ε*z2e (z5J m x) (fun t=>s i t*vt s (z5J m x) t)<0):=by
 have nd:=z9r (m:=m) (x:=x)
 have lt:=z7w (m:=m) (x:=x)
 have ps:=z6T (m:=m) (x:=x)
 have od:=y8n O E
 have pr:=fun {a b:Nat}=>ev_prop O E (a:=a) (b:=b)
 obtain⟨S,hS⟩:∃S,S=z5J m x:=⟨_,rfl⟩
 rw[←hS]at nd lt ps od ⊢
 have pr:∀{a b:Nat},a∈S->b∈S->vt s S b*x a=x b*vt s S a:=by rw[hS];exact pr
 obtain⟨b,hb⟩:∃b,b∈S:=by
  cases h:S with
  |nil=>rw[h]at od;cases od
  |cons a r=>exact⟨a,af⟩
 have hv:∀t∈S,vt s S t≠0:=fun t ht h=>by
  have hk:idx S t<S.length:=dZ ht
  have:=O.one (S.eraseIdx (idx S t)) (nd.sublist (cB _ _)) (fun y hy=>lt y (bw hy)) (by rw[bf,if_pos hk];omega)
  unfold vt at h
  rcases z6u (idx S t)with e | e <;> rw[e]at h <;> omega
 have xb:=ps b hb
 obtain⟨ε,he,hε⟩:∃ε:Int,(ε=1∨ε = -1)∧0<ε*vt s S b:=by
  by_cases h:0<vt s S b
  ·exact⟨1,.inl rfl,by omega⟩
  ·exact⟨-1,.inr rfl,by have:=hv b hb;omega⟩
 refine⟨ε,he,fun t ht=>?_,fun i hi hn=>?_⟩
 ·have h1:=pr ht hb
  have h2:=cV hε (ps t ht)
  have h3:x b*(ε*vt s S t)=ε*vt s S b*x t:=by grind
  rw[←h3,c5]at h2
  exact eS h2 xb
 ·have h1:=O.two i S (aw.mpr ⟨hn,nd⟩) (fun y hy=>by
   rcases ao.mp hy with rfl | hy
   ·exact hi
   ·exact lt y hy) od
  rw[x1O nd]at h1
  have h2:=E.le i hi
  rw[y0r E.nn,←hS]at h2
  have h3:x b*z2e S (fun t=>s i t*vt s S t)=vt s S b*z2e S (fun t=>s i t*x t):=by
   rw[←ls_mul,←ls_mul]
   refine z4t fun t ht=>?_
   have:=pr ht hb
   grind
  obtain⟨g,hg⟩:∃g,g=z2e S (fun t=>s i t*vt s S t):=⟨_,rfl⟩
  obtain⟨u,hu⟩:∃u,u=z2e S (fun t=>s i t*x t):=⟨_,rfl⟩
  rw[←hg]at h1 h3 ⊢
  rw[←hu]at h2 h3
  have h4:x b*(ε*g)=ε*vt s S b*u:=by grind
  have h5:ε*vt s S b*u≤0:=Int.mul_nonpos_of_nonneg_of_nonpos (by omega) h2
  have h6:ε*g≠0:=fun z=>by
   rcases d8.mp z with z | z
   ·omega
   ·rw[z]at h1;cases h1
  by_cases z:ε*g<0
  ·exact z
  ·have:=cV xb (show 0<ε*g by omega)
   omega
end
theorem x0b{m:Nat}{L:List Nat}(nd:L.Nodup)(h:∀x∈L,x<m):L.length≤m:=by
 have:=List.Nodup.length_le_of_subset nd (l₂:=ad m) fun x hx=>ak.mpr (h x hx)
 rwa [aW]at this
theorem odd_pf{T:List (List Bool)}{m:Nat}(F:Full m T)(hm:m≤8):OddPf (sk2 T m) m where
 sk:=z9R
 one:=fun L nd h he=>by
  have hl:=x0b nd h
  rw[←y2p F (c:=L.length / 2) nd h (by omega) (by omega)]
  exact y4z (c:=L.length / 2) (by omega)
 two:=fun i R nd h he=>by
  have hl:=x0b nd h
  have hl':R.length+1≤m:=hl
  show Pf (sk2 T m) 13 (i::R) % 2=1
  rw[←y2p F (c:=(R.length+1) / 2) nd h (by show R.length+1=_;omega) (by omega)]
  exact y4z (c:=(R.length+1) / 2) (by show R.length+1=_;omega)
theorem x1R{T:List (List Bool)}{S:List Nat}:∀{n:Nat} {L:List Nat},(∀k∈L,k<S.length)->pfS (z0O S (at2 T)) n L=pfS T n (L.map fun k=>S.getD k 0)
 |0,_,_=>rfl
 |n+1,[],_=>rfl
 |n+1,x::r,h=>by
  show((ad r.length).map fun k=>sg k*sgn (z0O S (at2 T)) x (r.getD k 0)*pfS (z0O S (at2 T)) n (r.eraseIdx k)).sum=((ad (r.map fun k=>S.getD k 0).length).map fun k=>sg k*sgn T (S.getD x 0) ((r.map fun k=>S.getD k 0).getD k 0)*pfS T n ((r.map fun k=>S.getD k 0).eraseIdx k)).sum
  rw[ah]
  refine z8i fun k hk=>?_
  have hk:=ak.mp hk
  have hy:r.getD k 0∈r:=by
   rw[aB,ac hk]
   exact bT hk
  have e1:(r.map fun k=>S.getD k 0).getD k 0=S.getD (r.getD k 0) 0:=by simp[aZ,ac hk]
  have e2:sgn (z0O S (at2 T)) x (r.getD k 0)=sgn T (S.getD x 0) (S.getD (r.getD k 0) 0):=by
   unfold sgn
   rw[y5K (h x af) (h _ (ae _ hy))]
  rw[e1,e2,x1R (n:=n) fun j hj=>h j (ae _ (bw hj)),z5t]
theorem rng_map{S:List Nat}:(ad S.length).map (fun k=>S.getD k 0)=S:=by
 apply bi
 ·simp
 ·intro i h1 h2
  simp[aZ,ac h2]
theorem er_map{S:List Nat}{k:Nat}:((ad S.length).eraseIdx k).map (fun k=>S.getD k 0)=S.eraseIdx k:=by rw[←z5t,rng_map]
theorem x2M{T:List (List Bool)}{m c:Nat}(F:Full m T){S:List Nat}(nd:S.Nodup)(hlt:∀x∈S,x<m)(hl:S.length=2*c+1)(hc:c≤3):x2a (z0O S (at2 T)) S.length=S.map (vt (sk2 T m) S):=by
 apply bi
 ·rw[y8z,ah]
 ·intro k h1 h2
  have hk:k<S.length:=by simpa using h2
  have e1:=ker_at (T:=z0O S (at2 T)) hk
  rw[aB,ac (by rw[y8z];exact hk)]at e1
  have e1:(x2a (z0O S (at2 T)) S.length)[k]=sg k*pfS (z0O S (at2 T)) 12 ((ad S.length).eraseIdx k):=e1
  rw[e1,bU,x1R fun j hj=>ak.mp (bw hj),er_map]
  have hi:=x4t nd hk
  rw[aB,ac hk]at hi
  have hi:idx S S[k]=k:=hi
  unfold vt
  rw[hi,y2p F (c:=c) (nd.sublist (cB _ k)) (fun x hx=>hlt x (bw hx)) (by rw[bf,if_pos hk];omega) (by omega)]
def dfI:Nat->Int
 |0=>1
 |c+1=>(2*(c:Int)+1)*dfI c
theorem pf_df{T:List (List Bool)}:∀{n c:Nat} {L:List Nat},L.length=2*c->-dfI c≤pfS T n L∧pfS T n L≤dfI c
 |_,0,L,h=>by
  have:L=[]:=aS.mp (by omega)
  subst this
  rename_i n
  have e:pfS T n []=1:=by cases n <;> rfl
  rw[e]
  decide
 |0,c+1,L,h=>by
  have h1:∀c,1≤dfI c:=fun c=>by
   induction c with
   |zero=>decide
   |succ c ih=>
    have:=Int.mul_le_mul (show(1:Int)≤2*(c:Int)+1 by omega) ih (by omega) (by omega)
    exact this
  have:=h1 (c+1)
  show -dfI (c+1)≤1∧(1:Int)≤dfI (c+1)
  omega
 |n+1,c+1,[],h=>by simp at h
 |n+1,c+1,x::r,h=>by
  have hr:r.length=2*c+1:=by simp at h;omega
  have:=z7V (c:=r.length) (B:=dfI c) (f:=fun k=>sg k*sgn T x (r.getD k 0)*pfS T n (r.eraseIdx k)) fun k hk=>by
   have b:=pf_df (T:=T) (n:=n) (c:=c) (L:=r.eraseIdx k) (by rw[bf,if_pos hk];omega)
   show -dfI c≤sg k*sgn T x (r.getD k 0)*pfS T n (r.eraseIdx k)∧sg k*sgn T x (r.getD k 0)*pfS T n (r.eraseIdx k)≤dfI c
   rcases z6u k with h | h <;> rcases z6h T x (r.getD k 0)with h' | h' <;> rw[h,h'] <;> omega
  have e:dfI (c+1)=(r.length:Int)*dfI c:=by
   show(2*(c:Int)+1)*dfI c=_
   rw[hr]
   rfl
  rw[e]
  exact this
theorem df_15{c:Nat}(h:c≤3):dfI c≤15:=by
 rcases c with _ | _ | _ | _ | c
 ·decide
 ·decide
 ·decide
 ·decide
 ·omega
theorem vt_of{T:List (List Bool)}{m c:Nat}(F:Full m T){S:List Nat}(nd:S.Nodup)(hlt:∀x∈S,x<m)(hl:S.length=2*c+1)(hc:c≤3){t:Nat}(ht:t∈S):vt (sk2 T m) S t % 2=1∧(vt (sk2 T m) S t).natAbs≤15:=by
 have hk:idx S t<S.length:=dZ ht
 have hle:(S.eraseIdx (idx S t)).length=2*c:=by rw[bf,if_pos hk];omega
 unfold vt
 rw[←y2p F (c:=c) (nd.sublist (cB _ _)) (fun x hx=>hlt x (bw hx)) hle (by omega)]
 have h1:=y4z (T:=T) (n:=12) hle
 have h2:=pf_df (T:=T) (n:=12) hle
 have h3:=df_15 hc
 rcases z6u (idx S t)with h | h <;> rw[h] <;> omega
theorem two_eq{a b:Nat}(hb:b≤90):z1B [.int (a:Int),.int (b:Int)]=some (.int ((ef a b:Nat):Int)):=by
 refine z0s rfl ?_
 simp! only[z2p]
 refine z0z (I:=fun s=>∃o1 o2,s=[some (.sh (.int ((ef a b:Nat):Int))),o1,o2]) ?_ ?_
 ·refine z3U (fun n s=>∃(x y:Nat) (o2:Option SD),s=[some (.sh (.int (x:Int))),some (.sh (.int (y:Int))),o2]∧ef x y=ef a b∧y≤n) (n:=b) ⟨a,b,_,rfl,rfl,am _⟩ ?_ (by omega)
  rintro n s ⟨x,y,o2,rfl,hg,hy⟩
  refine⟨decide ((y:Int)>0),by simp! only[],fun hk=>?_,fun hk=>?_⟩
  ·have hk:=of_decide_eq_false hk
   have:y=0:=by omega
   subst this
   rw[Nat.gcd_zero_right]at hg
   exact⟨_,rfl,_,_,by rw[hg]⟩
  ·have hk:=of_decide_eq_true hk
   have md:z2J (.int (x:Int)) (.int (y:Int))=some (.int ((x % y:Nat):Int)):=z1Q (by omega)
   refine⟨n - 1,by omega,?_⟩
   simp! only[md,z0d]
   refine⟨y,x % y,_,rfl,?_,?_⟩
   ·rw[←hg,Nat.gcd_comm x y,Nat.gcd_rec y x,Nat.gcd_comm]
   ·have:=Nat.mod_lt x (show 0<y by omega)
    omega
 ·rintro s ⟨o1,o2,rfl⟩
  simp! only[z0d]
def gcL(vs:List Int):Nat:=vs.foldl (fun g v=>ef g v.natAbs) 0
theorem y4Z{vs:List Int}{v:Int}:gcL (vs++[v])=ef (gcL vs) v.natAbs:=by
 unfold gcL
 rw[List.foldl_append]
 rfl
theorem y9s{vs:List Int}(h:∀v∈vs,v.natAbs≤90):z1A [z4H vs]=some (.int ((gcL vs:Nat):Int)):=by
 refine z0s rfl ?_
 have sq:y6y (z4H vs)=some (vs.map .int):=rfl
 simp! only[z2o,sq]
 refine z0z (I:=fun s=>∃o2,s=[some (.sh (z4H vs)),some (.sh (.int ((gcL vs:Nat):Int))),o2]) (z3j (enc:=D.int) (xs:=vs) (fun pre s=>∃o2,s=[some (.sh (z4H vs)),some (.sh (.int ((gcL pre:Nat):Int))),o2]) ⟨_,rfl⟩ ?_ fun s z=>⟨s,rfl,z⟩) ?_
 ·rintro pre v post e s ⟨o2,rfl⟩
  have ab:absF [.int v]=some (.int ((v.natAbs:Nat):Int)):=by
   show some (D.int (if v<0 then -v else v))=_
   congr 2
   split <;> omega
  simp! only[ab,two_eq (a:=gcL pre) (h v (by rw[e];simp)),y4Z,z0d]
  exact⟨_,rfl⟩
 ·rintro s ⟨o2,rfl⟩
  simp! only[z0d]
theorem x4y{vs:List Int}:∀v∈vs,gcL vs∣v.natAbs:=by
 have h:∀(r vs:List Int),vs=r.reverse->∀v∈vs,gcL vs∣v.natAbs:=by
  intro r
  induction r with
  |nil=>rintro vs rfl v hv;cases hv
  |cons a r ih=>
   rintro vs rfl v hv
   rw[br]at hv ⊢
   rw[y4Z]
   rcases au.mp hv with hv | hv
   ·exact Nat.dvd_trans (Nat.gcd_dvd_left _ _) (ih _ rfl v hv)
   ·rw[aq.mp hv]
    exact Nat.gcd_dvd_right _ _
 exact h vs.reverse vs (b8 vs).symm
theorem y3s{α:Type}{ea eb:α->D}{i j:Nat}{b:SS->Option Out}{QO:Out->Prop}{xs:List α}(I:List α->SS->Prop)(hs:∀pre x post,xs=pre++x::post->∀δ,I pre δ->hol (b ((δ.set i (some (.sh (ea x)))).set j (some (.sh (eb x))))) fun o=>match o with | .nx δ'=>I (pre++[x]) δ' | .ct δ'=>I (pre++[x]) δ' | .bk δ'=>QO (.nx δ') | .rt d=>QO (.rt d) | .rb d δ'=>QO (.rb d δ') | .ex c δ'=>QO (.ex c δ'))(he:∀δ,I xs δ->QO (.nx δ)):
  ∀{post pre:List α} {s:SS},xs=pre++post->I pre s->hol (z6c i j b (post.map fun z=>.tup [ea z,eb z]) s) QO
 |[],pre,s,e,h=>⟨_,rfl,he s (by rw[e,aL];exact h)⟩
 |x::post,pre,s,e,h=>by
  obtain⟨o,eo,q⟩:=hs pre x post e s h
  rw[aC]
  unfold z6c
  show hol ((b ((s.set i (some (.sh (ea x)))).set j (some (.sh (eb x))))).bind _) QO
  rw[eo]
  have e3:xs=(pre++[x])++post:=by rw[e];simp
  cases o with
  |nx s1=>exact y3s I hs he e3 q
  |ct s1=>exact y3s I hs he e3 q
  |bk s1=>exact⟨_,rfl,q⟩
  |rt d=>exact⟨_,rfl,q⟩
  |rb d s1=>exact⟨_,rfl,q⟩
  |ex c s1=>exact⟨_,rfl,q⟩
theorem zip_v{v:Nat->Int}:∀{S:List Nat},y6U (S.map nD) ((S.map v).map .int)=S.map fun t=>.tup [nD t,.int (v t)]
 |[]=>rfl
 |t::r=>by
  show D.tup [nD t,.int (v t)]::y6U (r.map nD) ((r.map v).map .int)=_
  rw[zip_v]
  rfl
def z2A(m:Nat)(S:List Nat)(f:Nat->Int):List Int:=(ad m).map fun t=>if S.contains t=true then f t else 0
theorem z2z{m:Nat}{S:List Nat}{f:Nat->Int}:(z2A m S f).length=m:=by simp[z2A]
theorem z7o{m:Nat}{S:List Nat}{f:Nat->Int}{t:Nat}(h:t<m):(z2A m S f).getD t 0=if S.contains t=true then f t else 0:=by
 unfold z2A
 simp[aZ,ac,h]
theorem z7L{m:Nat}{S:List Nat}{f:Nat->Int}{t:Nat}(h:t<(z2A m S f).length):(z2A m S f)[t]=if S.contains t=true then f t else 0:=by
 have e:=z7o (m:=m) (S:=S) (f:=f) (t:=t) (by rw[z2z]at h;exact h)
 rw[aB,ac h]at e
 exact e
theorem y6u{m:Nat}{S:List Nat}{f:Nat->Int}{t:Nat}:(z2A m S f).set t (f t)=z2A m (S++[t]) f:=by
 apply bi
 ·rw[bY,z2z,z2z]
 ·intro i h1 h2
  rw[dM,z7L h2]
  by_cases h:t=i
  ·subst h
   rw[if_pos rfl,if_pos (by simp)]
  ·rw[if_neg h,z7L]
   have e:(S++[t]).contains i=S.contains i:=by
    simp
    exact fun z=>absurd z.symm h
   rw[e]
theorem y6I{m:Nat}{f:Nat->Int}:z2A m [] f=ai m 0:=by
 apply bi
 ·rw[z2z,c6]
 ·intro i h1 h2
  rw[z7L,List.getElem_replicate]
  rfl
theorem st_intW{o:List Int}{k:Nat}{x:Int}(h:k<o.length):st0V (some (z4H o)) (some (.int (k:Int))) (some (.int x))=some (z4H (o.set k x)):=by
 show(ixN (o.map D.int).length (k:Int)).map (fun j=>D.lst ((o.map D.int).set j (.int x)))=_
 rw[y7S (by simpa using h),bx,←cY]
 rfl
def dvS(T:List (List Bool))(m:Nat)(S:List Nat):Int:=if vt (sk2 T m) S (S.getD 0 0)<0 then -((gcL (S.map (vt (sk2 T m) S)):Nat):Int)else((gcL (S.map (vt (sk2 T m) S)):Nat):Int)
def wtS(T:List (List Bool))(m:Nat)(S:List Nat):List Int:=z2A m S fun t=>(vt (sk2 T m) S t).fdiv (dvS T m S)
structure Od(m:Nat)(S:List Nat):Prop where
 nd:S.Nodup
 lt:∀x∈S,x<m
 odd:S.length % 2=1
theorem Od.half{m:Nat}{S:List Nat}(O:Od m S)(hm:m≤8):∃c,S.length=2*c+1∧c≤3:=⟨S.length / 2,by have:=O.odd;omega,by have:=x0b O.nd O.lt;have:=O.odd;omega⟩
theorem Od.v{T:List (List Bool)}{m:Nat}(F:Full m T)(hm:m≤8){S:List Nat}(O:Od m S){t:Nat}(ht:t∈S):vt (sk2 T m) S t % 2=1∧(vt (sk2 T m) S t).natAbs≤15:=by
 obtain⟨c,h1,h2⟩:=O.half hm
 exact vt_of F O.nd O.lt h1 h2 ht
theorem Od.first{m:Nat}{S:List Nat}(O:Od m S):S.getD 0 0∈S:=by
 have h:0<S.length:=by have:=O.odd;omega
 rw[aB,ac h]
 exact bT h
theorem Od.gc{T:List (List Bool)}{m:Nat}(F:Full m T)(hm:m≤8){S:List Nat}(O:Od m S):0<gcL (S.map (vt (sk2 T m) S))∧gcL (S.map (vt (sk2 T m) S))≤15:=by
 have hd:=x4y (vs:=S.map (vt (sk2 T m) S)) _ (aP.mpr ⟨_,O.first,rfl⟩)
 have hv:=O.v F hm O.first
 have hp:0<(vt (sk2 T m) S (S.getD 0 0)).natAbs:=by omega
 exact⟨Nat.pos_of_dvd_of_pos hd hp,aG (Nat.le_of_dvd hp hd) hv.2⟩
theorem wton_eq{T:List (List Bool)}{m:Nat}(F:Full m T)(hm:m≤8){S:List Nat}(O:Od m S):z2Q [z0G T,thD S]=some (z4H (wtS T m S)):=by
 refine z0s rfl ?_
 obtain⟨c,hl,hc⟩:=O.half hm
 have pt:=y8J F.sq (th:=S) (by omega) O.lt
 have ke:=y7V (z7S (th:=S) (f:=at2 T)) hl hc
 rw[hl]at ke
 have kp:=x2M F O.nd O.lt hl hc
 rw[hl]at kp
 rw[kp]at ke
 obtain⟨v,hv⟩:∃v,v=vt (sk2 T m) S:=⟨_,rfl⟩
 have bd:∀t∈S,(v t).natAbs≤15:=fun t ht=>by rw[hv];exact(O.v F hm ht).2
 have gp:=O.gc F hm
 have cm:=y9s (vs:=S.map v) fun x hx=>by
  obtain⟨t,ht,rfl⟩:=aP.mp hx
  have:=bd t ht
  omega
 have i0:ixD (z4H (S.map v)) (.int 0)=some (.int (v (S.getD 0 0))):=by
  have:=ix_in (ws:=S.map v) (k:=0) (by rw[ah];omega)
  have e:(S.map v).getD 0 0=v (S.getD 0 0):=by
   have h0:0<S.length:=by omega
   simp[aZ,ac h0]
  rw[e]at this
  exact this
 obtain⟨g,hg⟩:∃g,g=gcL (S.map v):=⟨_,rfl⟩
 rw[←hv]at ke gp
 rw[←hg]at cm gp
 have hdv:dvS T m S=if v (S.getD 0 0)<0 then -((g:Nat):Int)else((g:Nat):Int):=by unfold dvS;rw[←hv,←hg]
 obtain⟨d,hd⟩:∃d,d=dvS T m S:=⟨_,rfl⟩
 rw[←hd]at hdv
 have rp:repO (some (.lst [.int 0])) (some (.int (m:Int)))=some ((ai m (0:Int)).map .int):=by rw[eo_repN (by omega),List.map_replicate]
 have hw:wtS T m S=z2A m S fun t=>(v t).fdiv d:=by unfold wtS;rw[←hv,←hd]
 rw[hw]
 simp! only[z4k,pt,ke,cm,i0]
 refine z0z (I:=fun s=>s=[some (.sh (z0G T)),some (.sh (thD S)),some (.sh (z4H (S.map v))),some (.sh (.int d)),none,none,none]) ?_ ?_
 ·by_cases h:v (S.getD 0 0)<0
  ·rw[decide_eq_true h]
   simp! only[z0d]
   refine⟨_,rfl,?_⟩
   rw[hdv,if_pos h]
  ·rw[decide_eq_false h]
   simp! only[z0d]
   refine⟨_,rfl,?_⟩
   rw[hdv,if_neg h]
 ·rintro s rfl
  have fl:z6k (some ((ai m (0:Int)).map D.int))=some ((ai m (0:Int)).map D.int):=z1o (z2v _)
  have zp:zpO (some (thD S)) (some (z4H (S.map v)))=some (S.map fun t=>.tup [nD t,.int (v t)]):=by
   show some (y6U (S.map nD) ((S.map v).map .int))=_
   rw[zip_v]
  have li:D.lst ((ai m (0:Int)).map .int)=z4H (z2A m [] fun t=>(v t).fdiv d):=by rw[y6I];rfl
  simp! only[z2C,F.sq.1,rp,fl,li,ev_zip,zp]
  refine z0z (I:=fun s=>∃o5 o6,s=[some (.sh (z0G T)),some (.sh (thD S)),some (.sh (z4H (S.map v))),some (.sh (.int d)),some (.ow (z4H (z2A m S fun t=>(v t).fdiv d))),o5,o6]) ?_ ?_
  ·refine y3s (ea:=nD) (eb:=fun t=>.int (v t)) (fun pre s=>∃o5 o6,s=[some (.sh (z0G T)),some (.sh (thD S)),some (.sh (z4H (S.map v))),some (.sh (.int d)),some (.ow (z4H (z2A m pre fun t=>(v t).fdiv d))),o5,o6]) ?_ (fun s z=>⟨s,rfl,z⟩) (pre:=[]) rfl ⟨_,_,rfl⟩
   rintro pre t post e s ⟨o5,o6,rfl⟩
   have ht:t∈S:=by rw[←cG S,e];simp
   have dn:divN (.int (v t)) (.int d)=some (.int ((v t).fdiv d)):=by
    refine if_pos ⟨?_,?_⟩
    ·rw[hdv];split <;> omega
    ·rw[hdv];split <;> omega
   simp! only[nD,dn,st_intW (show t<(z2A m pre fun t=>(v t).fdiv d).length by rw[z2z];exact O.lt t ht),y6u (f:=fun t=>(v t).fdiv d),z0d]
   exact⟨_,_,rfl⟩
  ·rintro s ⟨o5,o6,rfl⟩
   simp! only[z0d]
theorem y2Q{ns:List Int}:∀{k i:Nat},i≤k->ns.getD (bst ns k) 0≤ns.getD i 0
 |0,i,h=>by
  have:i=0:=by omega
  subst this
  exact dc _
 |k+1,i,h=>by
  unfold bst
  by_cases hc:ns.getD (k+1) 0<ns.getD (bst ns k) 0
  ·rw[if_pos (decide_eq_true hc)]
   by_cases hi:i=k+1
   ·rw[hi];exact dc _
   ·have:=y2Q (ns:=ns) (k:=k) (i:=i) (by omega)
    omega
  ·rw[if_neg (by simpa using hc)]
   by_cases hi:i=k+1
   ·rw[hi];omega
   ·exact y2Q (by omega)
theorem x4C{ns:List Int}:∀k,bst ns k≤k
 |0=>am 0
 |k+1=>by
  unfold bst
  split
  ·exact am _
  ·have:=x4C (ns:=ns) k;omega
theorem y0L{ns:List Int}:∀{k i:Nat},i≤k->ns.getD i 0≤ns.getD (y6V ns k) 0
 |0,i,h=>by
  have:i=0:=by omega
  subst this
  exact dc _
 |k+1,i,h=>by
  unfold y6V
  by_cases hc:ns.getD (k+1) 0>ns.getD (y6V ns k) 0
  ·rw[if_pos (decide_eq_true hc)]
   by_cases hi:i=k+1
   ·rw[hi];exact dc _
   ·have:=y0L (ns:=ns) (k:=k) (i:=i) (by omega)
    omega
  ·rw[if_neg (by simpa using hc)]
   by_cases hi:i=k+1
   ·rw[hi];omega
   ·exact y0L (by omega)
theorem x1B{ns:List Int}:∀k,y6V ns k≤k
 |0=>am 0
 |k+1=>by
  unfold y6V
  split
  ·exact am _
  ·have:=x1B (ns:=ns) k;omega
theorem y7E{ns:List Int}{k:Nat}(h:k<ns.length):ns.getD k 0∈ns:=by
 rw[aB,ac h]
 exact bT h
theorem mn_mem{ns:List Int}(h:ns≠[]):mnI ns∈ns∧∀x∈ns,mnI ns≤x:=by
 have hp:=cb.mpr h
 refine⟨y7E (by have:=x4C (ns:=ns) (ns.length - 1);omega),fun x hx=>?_⟩
 obtain⟨i,hi,rfl⟩:=c9.mp hx
 have h1:=y2Q (ns:=ns) (k:=ns.length - 1) (i:=i) (by omega)
 have e:ns.getD i 0=ns[i]:=by rw[aB,ac hi];rfl
 unfold mnI
 omega
theorem mx_mem{ns:List Int}(h:ns≠[]):mxI ns∈ns∧∀x∈ns,x≤mxI ns:=by
 have hp:=cb.mpr h
 refine⟨y7E (by have:=x1B (ns:=ns) (ns.length - 1);omega),fun x hx=>?_⟩
 obtain⟨i,hi,rfl⟩:=c9.mp hx
 have h1:=y0L (ns:=ns) (k:=ns.length - 1) (i:=i) (by omega)
 have e:ns.getD i 0=ns[i]:=by rw[aB,ac hi];rfl
 unfold mxI
 omega
def evA(T:List (List Bool))(m:Nat)(ws:List Int)(t:Nat):Bool:=if 0<ws.getD t 0 then decide (scr T ws m t=0)else decide (scr T ws m t<0)
def evB(T:List (List Bool))(m:Nat)(ws:List Int):Bool:=!(decide (mnI ws<0)||decide (mxI ws=0))&&(ad m).all fun t=>evA T m ws t
theorem evat_eq{m:Nat}{T:List (List Bool)}(sq:Sq m T)(hm:m≤1000){ws:List Int}(hw:ws.length=m){t:Nat}(ht:t<m):z2f [z0G T,z4H ws,.int (t:Int)]=some (.bl (evA T m ws t)):=by
 refine z0s rfl ?_
 have ix:=ix_in (ws:=ws) (k:=t) (by omega)
 have sc:=x2y sq hm hw ht
 unfold evA
 by_cases h:0<ws.getD t 0
 ·have h':decide (ws.getD t 0>0)=true:=decide_eq_true h
  rw[if_pos h]
  simp_all! only[z2R,ix,h',sc,z0d]
 ·have h':decide (ws.getD t 0>0)=false:=decide_eq_false h
  rw[if_neg h]
  simp_all! only[z2R,ix,h',sc,z0d]
theorem x0o{m:Nat}{T:List (List Bool)}(sq:Sq m T)(h0:0<m)(hm:m≤1000){ws:List Int}(hw:ws.length=m):z5o [z0G T,z4H ws]=some (.bl (evB T m ws)):=by
 refine z0s rfl ?_
 have hne:ws≠[]:=fun z=>by rw[z]at hw;simp at hw;omega
 unfold evB
 have cx:z2c (some (z2h 0 m)) (z1N z3p (z0k z2f [z0c 0,z0c 1,z0c 2]) [some (z0G T),some (z4H ws)])=some (((ad m).map fun t=>evA T m ws t).map bD):=by
  rw[z1l,aJ]
  exact z5l (fun t=>bD (evA T m ws t)) (by simp;omega) fun t ht=>by simp! only[nD,evat_eq sq hm hw (ak.mp ht),bD]
 simp! only[z7u,min_in hne,max_in hne]
 cases h:(decide (mnI ws<0)||decide (mxI ws=0))with
 |true=>simp_all! only[z0d]
 |false=>
  simp_all! only[z2C,sq.1,z1J (show m≤1000000 by omega),cx,y8y,z0d]
  rw[eQ]
  rfl
theorem ev_iff{m:Nat}{T:List (List Bool)}{ws:List Int}(h0:0<m)(hw:ws.length=m):evB T m ws=true↔(∀t,t<m->0≤ws.getD t 0)∧(∃t,t<m∧0<ws.getD t 0)∧(∀t,t<m->0<ws.getD t 0->scr T ws m t=0)∧∀t,t<m->¬ 0<ws.getD t 0->scr T ws m t<0:=by
 have hne:ws≠[]:=fun z=>by rw[z]at hw;simp at hw;omega
 obtain⟨n1,n2⟩:=mn_mem hne
 obtain⟨x1,x2⟩:=mx_mem hne
 have hel:∀x,x∈ws↔∃t,t<m∧ws.getD t 0=x:=fun x=>by
  rw[c9]
  constructor
  ·rintro⟨i,hi,rfl⟩
   exact⟨i,by omega,by simp[aZ,ac hi]⟩
  ·rintro⟨t,ht,rfl⟩
   exact⟨t,by omega,by simp[aZ,ac (show t<ws.length by omega)]⟩
 unfold evB
 rw[aE,cR,Bool.or_eq_false_iff,decide_eq_false_iff_not,decide_eq_false_iff_not,aI]
 constructor
 ·rintro⟨⟨h1,h2⟩,h3⟩
  have nn:∀t,t<m->0≤ws.getD t 0:=fun t ht=>by
   have:=n2 _ ((hel _).mpr ⟨t,ht,rfl⟩)
   omega
  refine⟨nn,?_,fun t ht hp=>?_,fun t ht hp=>?_⟩
  ·obtain⟨t,ht,e⟩:=(hel _).mp x1
   have:=nn t ht
   exact⟨t,ht,by omega⟩
  ·have:=h3 t (ak.mpr ht)
   unfold evA at this
   rw[if_pos hp]at this
   exact of_decide_eq_true this
  ·have:=h3 t (ak.mpr ht)
   unfold evA at this
   rw[if_neg hp]at this
   exact of_decide_eq_true this
 ·rintro⟨nn,⟨p,hp,hpp⟩,h3,h4⟩
  refine⟨⟨?_,?_⟩,fun t ht=>?_⟩
  ·obtain⟨t,ht,e⟩:=(hel _).mp n1
   have:=nn t ht
   omega
  ·have:=x2 _ ((hel _).mpr ⟨p,hp,rfl⟩)
   omega
  ·have ht:=ak.mp ht
   unfold evA
   by_cases h:0<ws.getD t 0
   ·rw[if_pos h]
    exact decide_eq_true (h3 t ht h)
   ·rw[if_neg h]
    exact decide_eq_true (h4 t ht h)
def pkL(L:List Nat):List (List Nat):=L.foldl (fun P t=>P++P.map (· ++ [t])) [[]]
theorem z9O{L:List Nat}{t:Nat}:pkL (L++[t])=pkL L++(pkL L).map (· ++ [t]):=by
 unfold pkL
 rw[List.foldl_append]
 rfl
theorem x4k:∀(r:List Nat),(pkL r.reverse).length=2 ^ r.length
 |[]=>rfl
 |t::r=>by
  rw[br,z9O,aD,ah,x4k r,aY,Nat.pow_succ]
  omega
theorem y5R:∀(r:List Nat),∀S∈pkL r.reverse,S.Sublist r.reverse∧S.length≤r.length
 |[],S,h=>by
  rw[aq.mp h]
  exact⟨.slnil,am _⟩
 |t::r,S,h=>by
  rw[br,z9O,au]at h
  rw[br]
  rcases h with h | h
  ·obtain⟨h1,h2⟩:=y5R r S h
   exact⟨h1.trans (List.sublist_append_left _ _),by rw[aY];omega⟩
  ·obtain⟨S',h',rfl⟩:=aP.mp h
   obtain⟨h1,h2⟩:=y5R r S' h'
   exact⟨h1.append (List.Sublist.refl _),by rw[aD];show S'.length+1≤r.length+1;omega⟩
theorem x5z{p:Nat->Bool}:∀(r:List Nat),r.reverse.filter p∈pkL r.reverse
 |[]=>af
 |t::r=>by
  rw[br,z9O,bW,au]
  have ih:=x5z (p:=p) r
  cases h:p t with
  |true=>
   right
   have e:[t].filter p=[t]:=by simp[h]
   rw[e]
   exact aP.mpr ⟨_,ih,rfl⟩
  |false=>
   left
   have e:[t].filter p=[]:=by simp[h]
   rw[e,aL]
   exact ih
def opB(S:List Nat):Bool:=decide (((S.length:Int)) % 2=1)
theorem x2i{L:List Nat}(hl:L.length≤8):z3A [thD L]=some (.lst (((pkL L).filter opB).map thD)):=by
 refine z0s rfl ?_
 have hlen:∀pre post:List Nat,L=pre++post->(pkL pre).length≤256∧∀S∈pkL pre,S.length≤8:=fun pre post e=>by
  have h1:=x4k pre.reverse
  have h2:=y5R pre.reverse
  rw[b8,fu]at h1 h2
  have h3:pre.length≤8:=by rw[e,aD]at hl;omega
  refine⟨?_,fun S hS=>by have:=(h2 S hS).2;omega⟩
  rw[h1]
  exact fq (n:=2) (by omega) h3
 have sqp:∀P:List (List Nat),y6y (.lst (P.map thD))=some (P.map thD):=fun _=>rfl
 have fn:z6k (some [])=some []:=rfl
 have st:(D.lst [D.lst []]) = .lst ((pkL []).map thD):=rfl
 simp! only[z5c,fn,st,z4E]
 refine z0z (I:=fun s=>∃o2,s=[some (.sh (thD L)),some (.sh (.lst ((pkL L).map thD))),o2]) (z3j (enc:=nD) (xs:=L) (fun pre s=>∃o2,s=[some (.sh (thD L)),some (.sh (.lst ((pkL pre).map thD))),o2]) ⟨_,rfl⟩ ?_ fun s z=>⟨s,rfl,z⟩) ?_
 ·rintro pre t post e s ⟨o2,rfl⟩
  obtain⟨b1,b2⟩:=hlen pre (t::post) e
  have cx:z2c (some ((pkL pre).map thD)) (z1N z3p (z0w (y4h (z0c 3) (mkL (z0m [z0c 2])))) [some (thD L),some (.lst ((pkL pre).map thD)),some (nD t)])=some (((pkL pre).map (· ++ [t])).map thD):=by
   rw[aJ]
   refine z5l (enc:=thD) (xs:=pkL pre) (fun S=>thD (S++[t])) (by omega) fun S hS=>?_
   have c1:x1P (some (thD S)) (some (.lst [nD t]))=some ((S++[t]).map nD):=x5k (a:=S) (b:=[t]) (by have:=b2 S hS;show S.length+1≤_;omega)
   simp! only[c1,z3d,y1j]
  have c2:x1P (some (.lst ((pkL pre).map thD))) (some (.lst (((pkL pre).map (· ++ [t])).map thD)))=some ((pkL (pre++[t])).map thD):=by
   rw[z9O,z8I (by simp only[ah];omega),aF]
  simp! only[sqp,cx,c2,z0d]
  exact⟨_,rfl⟩
 ·rintro s ⟨o2,rfl⟩
  obtain⟨b1,b2⟩:=hlen L [] (by simp)
  have cx:∀o:Option D,z2c (some ((pkL L).map thD)) (z1N (z0H (d2 eqD (d2 z2J (z0k z2t [z0c 3]) (dC (.int 2))) (dC (.int 1)))) (z0c 3) [some (thD L),some (.lst ((pkL L).map thD)),o])=some (((pkL L).filter opB).map thD):=fun o=>by
   refine z8C (enc:=thD) (xs:=pkL L) opB thD (by omega) (fun S hS=>?_) fun S hS _=>by simp! only[]
   have md:z2J (.int (S.length:Int)) (.int 2)=some (.int ((S.length:Int) % 2)):=z1Q (by omega)
   simp! only[y2o,md]
   rfl
  simp! only[sqp,cx,z0d]
theorem fd_of{v d:Int}(hd:d≠0)(h:d∣v):v=d*v.fdiv d:=by
 obtain⟨k,rfl⟩:=h
 rw[Int.mul_fdiv_cancel_left _ hd]
section
variable{T:List (List Bool)}{m:Nat}{S:List Nat}
theorem Od.d(F:Full m T)(hm:m≤8)(O:Od m S):dvS T m S≠0∧∀t∈S,vt (sk2 T m) S t=dvS T m S*(wtS T m S).getD t 0:=by
 have gp:=O.gc F hm
 have hne:dvS T m S≠0:=by unfold dvS;split <;> omega
 refine⟨hne,fun t ht=>?_⟩
 have hdv:dvS T m S∣vt (sk2 T m) S t:=by
  have h1:=x4y (vs:=S.map (vt (sk2 T m) S)) _ (aP.mpr ⟨t,ht,rfl⟩)
  have h2:((gcL (S.map (vt (sk2 T m) S)):Nat):Int)∣vt (sk2 T m) S t:=Int.ofNat_dvd_left.mpr h1
  unfold dvS
  split
  ·exact Int.neg_dvd.mpr h2
  ·exact h2
 unfold wtS
 rw[z7o (O.lt t ht),if_pos (aR.mpr ht)]
 exact fd_of hne hdv
theorem y5M{t:Nat}(ht:t<m)(hn:t∉S):(wtS T m S).getD t 0=0:=by
 unfold wtS
 rw[z7o ht,if_neg (by rw[aR];exact hn)]
theorem y7p:(wtS T m S).length=m:=by unfold wtS;exact z2z
theorem x4P(F:Full m T)(hm:m≤8)(O:Od m S){i:Nat}(hi:i<m):dvS T m S*scr T (wtS T m S) m i=z2e S fun t=>sk2 T m i t*vt (sk2 T m) S t:=by
 rw[x0B hi (am _)]
 have e1:((ad m).map fun j=>sk2 T m i j*(wtS T m S).getD j 0).sum=z2e ((ad m).filter fun t=>S.contains t) fun j=>sk2 T m i j*(wtS T m S).getD j 0:=by
  refine(y1L (L:=ad m) fun t ht hp=>?_).symm
  have hn:t∉S:=fun z=>by rw[aR.mpr z]at hp;cases hp
  rw[y5M (ak.mp ht) hn,Int.mul_zero]
 have pm:((ad m).filter fun t=>S.contains t).Perm S:=(cN (List.nodup_range.filter _) O.nd).mpr fun t=>by
  rw[ag,ak,aR]
  exact⟨fun h=>h.2,fun h=>⟨O.lt t h,h⟩⟩
 rw[e1,x0a pm,←ls_mul]
 refine z4t fun t ht=>?_
 rw[(O.d F hm).2 t ht]
 ac_rfl
theorem unc_of(F:Full m T){x:Vc}(E:Ev (sk2 T m) m x){t:Nat}(ht:t∈z5J m x):y6X T m t=true:=by
 unfold y6X
 rw[cR,b6]
 intro y hy hc
 have hy:=ak.mp hy
 have htm:=z7w t ht
 have hp:=z6T t ht
 unfold y6d at hc
 rw[aE,aI]at hc
 obtain⟨c1,c2⟩:=hc
 have hyt:y≠t:=fun z=>by rw[z,F.own t htm]at c1;cases c1
 have h1:=E.eq t htm hp
 have h2:=E.le y hy
 have hs:∀j,j<m->sk2 T m t j≤sk2 T m y j:=fun j hj=>by
  unfold sk2
  rw[if_pos (show t<m∧j<m from⟨htm,hj⟩),if_pos (show y<m∧j<m from⟨hy,hj⟩)]
  cases h3:at2 T t j with
  |true=>
   have h4:=c2 j (ag.mpr ⟨ak.mpr hj,h3⟩)
   have hjt:j≠t:=fun z=>by rw[z,F.own t htm]at h3;cases h3
   have hjy:j≠y:=fun z=>by rw[z,F.own y hy]at h4;cases h4
   have h5:=F.two t htm j hj (Ne.symm hjt)
   have h6:=F.two y hy j hj (Ne.symm hjy)
   rw[h3]at h5
   rw[h4]at h6
   have h5:at2 T j t=false:=by cases z:at2 T j t <;> rw[z]at h5 <;> first | rfl | cases h5
   have h6:at2 T j y=false:=by cases z:at2 T j y <;> rw[z]at h6 <;> first | rfl | cases h6
   rw[h4,h5,h6]
   decide
  |false=>
   by_cases hjt:j=t
   ·subst hjt
    have:=F.two y hy j hj hyt
    rw[c1]at this
    have h6:at2 T j y=false:=by cases z:at2 T j y <;> rw[z]at this <;> first | rfl | cases this
    rw[F.own j hj,c1,h6]
    decide
   ·have h5:=F.two t htm j hj (Ne.symm hjt)
    rw[h3]at h5
    have h5:at2 T j t=true:=by cases z:at2 T j t <;> rw[z]at h5 <;> first | rfl | cases h5
    rw[h5]
    cases at2 T y j <;> cases at2 T j y <;> decide
 have ht1:sk2 T m t t=0:=by
  unfold sk2
  rw[if_pos (show t<m∧t<m from⟨htm,htm⟩),F.own t htm]
  rfl
 have hy1:sk2 T m y t=1:=by
  unfold sk2
  have:=F.two y hy t htm hyt
  rw[c1]at this
  have h6:at2 T t y=false:=by cases z:at2 T t y <;> rw[z]at this <;> first | rfl | cases this
  rw[if_pos (show y<m∧t<m from⟨hy,htm⟩),c1,h6]
  rfl
 have h7:=y5t (n:=m) (y:=x) (a:=fun j=>sk2 T m y j + -1*sk2 T m t j) fun j hj=>bK (E.nn j) (by have:=hs j hj;omega)
 rw[z9t (u:=sk2 T m y) (v:=fun j=>-1*sk2 T m t j),z4R (u:=sk2 T m t),h1]at h7
 have h8:=h7.2 t htm
 rw[ht1,hy1]at h8
 omega
theorem y7M(F:Full m T)(h0:0<m)(hm:m≤8):∃S∈(pkL (y4A T m)).filter opB,evB T m (wtS T m S)=true:=by
 obtain⟨x,a1,a2,a3,a4⟩:=y7x (s:=sk2 T m) z9R h0
 have E:Ev (sk2 T m) m x:=⟨a1,a2,a3,a4⟩
 have P:=odd_pf F hm
 have od:=y8n P E
 obtain⟨ε,he,hs,ho⟩:=ev_ker P E
 have O:Od m (z5J m x):=⟨z9r,z7w,od⟩
 refine⟨z5J m x,ag.mpr ⟨?_,decide_eq_true (by omega)⟩,?_⟩
 ·have e:z5J m x=(y4A T m).filter fun i=>decide (0<x i):=by
   unfold z5J y4A
   rw[List.filter_filter]
   refine bC fun i hi=>?_
   by_cases h:0<x i
   ·rw[decide_eq_true h,unc_of F E (ag.mpr ⟨hi,decide_eq_true h⟩)]
    rfl
   ·rw[decide_eq_false h]
    rfl
  rw[e]
  have:=x5z (p:=fun i=>decide (0<x i)) (y4A T m).reverse
  rwa [b8]at this
 ·obtain⟨S,hS⟩:∃S,S=z5J m x:=⟨_,rfl⟩
  rw[←hS]at hs ho O ⊢
  have gp:=O.gc F hm
  have hf:=hs _ O.first
  have hd:dvS T m S=ε*((gcL (S.map (vt (sk2 T m) S)):Nat):Int):=by
   unfold dvS
   rcases he with rfl | rfl
   ·rw[if_neg (by omega)];omega
   ·rw[if_pos (by omega)];omega
  obtain⟨g,hg⟩:∃g,g=gcL (S.map (vt (sk2 T m) S)):=⟨_,rfl⟩
  rw[←hg]at gp hd
  have ee:ε*ε=1:=by rcases he with rfl | rfl <;> rfl
  have hw:∀t∈S,0<(wtS T m S).getD t 0:=fun t ht=>by
   have h1:=hs t ht
   rw[(O.d F hm).2 t ht,hd]at h1
   have h2:ε*(ε*(g:Int)*(wtS T m S).getD t 0)=(wtS T m S).getD t 0*(g:Int):=by grind
   rw[h2]at h1
   exact eS h1 (by omega)
  refine(ev_iff h0 y7p).mpr ⟨fun t ht=>?_,⟨_,O.lt _ O.first,hw _ O.first⟩,fun t ht hp=>?_,fun t ht hp=>?_⟩
  ·by_cases h:t∈S
   ·have:=hw t h;omega
   ·rw[y5M ht h];omega
  ·have hin:t∈S:=by
    by_cases h:t∈S
    ·exact h
    ·rw[y5M ht h]at hp;omega
   have h1:=x4P F hm O ht
   rw[←x1O O.nd,x1t z9R hin]at h1
   exact(d8.mp h1).resolve_left (O.d F hm).1
  ·have hin:t∉S:=fun h=>hp (hw t h)
   have h1:=ho t ht hin
   rw[←x4P F hm O ht,hd]at h1
   have h2:ε*(ε*(g:Int)*scr T (wtS T m S) m t)=(g:Int)*scr T (wtS T m S) m t:=by grind
   rw[h2]at h1
   by_cases h:scr T (wtS T m S) m t<0
   ·exact h
   ·have:=bK (show 0≤(g:Int) by omega) (show 0≤scr T (wtS T m S) m t by omega)
    omega
theorem pick_od{S:List Nat}(h:S∈(pkL (y4A T m)).filter opB):Od m S∧∀t∈S,y6X T m t=true:=by
 obtain⟨h1,h2⟩:=ag.mp h
 have h3:=y5R (y4A T m).reverse S (by rw[b8];exact h1)
 rw[b8]at h3
 have h2:((S.length:Int)) % 2=1:=of_decide_eq_true h2
 refine⟨⟨(List.nodup_range.filter _).sublist h3.1,fun t ht=>ak.mp (ag.mp (h3.1.subset ht)).1,by omega⟩,fun t ht=>(ag.mp (h3.1.subset ht)).2⟩
theorem y3N(F:Full m T)(h0:0<m)(hm:m≤8):hol (z1W [z0G T]) fun d=>∃S,Od m S∧(∀t∈S,y6X T m t=true)∧evB T m (wtS T m S)=true∧d=z4H (wtS T m S):=by
 refine z6s rfl ?_
 have ul:(y4A T m).length≤8:=aG (aX ..) (by simpa using hm)
 have sqp:∀P:List (List Nat),y6y (.lst (P.map thD))=some (P.map thD):=fun _=>rfl
 simp! only[z5T,z6F F.sq (show m≤1000 by omega),x2i ul,sqp]
 refine z3j (enc:=thD) (xs:=(pkL (y4A T m)).filter opB) (fun pre s=>(∃o1 o2,s=[some (.sh (z0G T)),o1,o2])∧∀S∈pre,evB T m (wtS T m S)=false) ⟨⟨_,_,rfl⟩,fun _ h=>nomatch h⟩ ?_ ?_
 ·rintro pre S post e s ⟨⟨o1,o2,rfl⟩,hn⟩
  have hS:S∈(pkL (y4A T m)).filter opB:=by rw[e];simp
  obtain⟨O,hu⟩:=pick_od hS
  simp! only[wton_eq F hm O,x0o F.sq h0 (show m≤1000 by omega) (y7p (T:=T) (S:=S))]
  cases hv:evB T m (wtS T m S)with
  |true=>
   simp! only[z0d]
   exact⟨_,rfl,S,O,hu,hv,rfl⟩
  |false=>
   simp! only[z0d]
   refine⟨⟨_,_,rfl⟩,fun S' h=>?_⟩
   rcases au.mp h with h | h
   ·exact hn S' h
   ·rw[aq.mp h]
    exact hv
 ·rintro s ⟨_,hn⟩
  obtain⟨S,h1,h2⟩:=y7M F h0 hm
  rw[hn S h1]at h2
  cases h2
end
section
end
theorem ev_lit{rs:List (List Int)}{δ:DS}:litD rs δ=some (.lst (rs.map fun r=>.lst (r.map .int))):=(rfl)
def apR(rows:List (List Nat))(k v:Nat):List (List Nat):=rows.set k (rows.getD k []++[v])
def rwD(rows:List (List Nat)):D:=.lst (rows.map thD)
theorem y1c:∀l:List Nat,z1t (l.map nD)=true
 |[]=>rfl
 |a::l=>by
  show(true&&z1t (l.map nD))=true
  rw[y1c l]
  rfl
theorem y3w{rows:List (List Nat)}{k v:Nat}(hk:k<rows.length)(hl:(rows.getD k []).length≤1000):m1V y0U (some (rwD rows)) (some (.int (k:Int))) (some [.int (v:Int)])=some (rwD (apR rows k v)):=by
 have hg:rows.getD k []=rows[k]:=by rw[aB,ac hk];rfl
 have h1:ixN (rows.map thD).length (k:Int)=some k:=y7S (by simpa using hk)
 have h2:(rows.map thD)[k]? = some (.lst (rows[k].map nD)):=by rw[ay,ac hk];rfl
 have ha:y0U (rows[k].map nD) [.int (v:Int)]=some ((rows[k]++[v]).map nD):=by
  have:y0U (rows[k].map nD) [.int (v:Int)]=some (rows[k].map nD++[.int (v:Int)]):=if_pos (by rw[ah,PySem.sizeLine_eq];rw[hg]at hl;omega)
  rw[this,aF]
  rfl
 unfold apR rwD
 rw[hg,cY]
 have hi:=y1c rows[k]
 simp only[m1V,h1,h2,hi,ha,z3d,if_true,aj,bx]
 rfl
def rows0:List (List Nat):=[[1,2,3],[2,5],[3,6],[1,4],[0,1,2],[0,2,3],[0,1,3]]
def y5Z(p q r:Nat):List (List Nat):=apR (apR (apR rows0 (4+p) (5 - p)) (4+2*q) (6 - 2*q)) (5+r) (6 - r)
def okRows(rows:List (List Nat)):Bool:=rows.length==7&&(ad 7).all fun i=>(rows.getD i []).all fun j=>decide (j<7)&&(j != i && !(rows.getD j []).contains i)
theorem x2X:((ad 2).all fun p=>(ad 2).all fun q=>(ad 2).all fun r=>okRows (y5Z p q r))=true:=by decide
theorem rows_ok{p q r:Nat}(hp:p<2)(hq:q<2)(hr:r<2):(y5Z p q r).length=7∧∀i<7,∀j∈(y5Z p q r).getD i [],j<7∧j≠i∧i∉(y5Z p q r).getD j []:=by
 have h:=aI.mp (aI.mp (aI.mp x2X p (ak.mpr hp)) q (ak.mpr hq)) r (ak.mpr hr)
 obtain⟨h1,h2⟩:=ax.mp h
 refine⟨by simpa using h1,fun i hi j hj=>?_⟩
 obtain⟨a,b⟩:=ax.mp (aI.mp (aI.mp h2 i (ak.mpr hi)) j hj)
 obtain⟨b,c⟩:=ax.mp b
 exact⟨of_decide_eq_true a,by simpa using b,fun z=>by rw[aR.mpr z]at c;cases c⟩
theorem pl_inj{s st:Int}(h1:1≤st)(h6:st≤6){i j:Nat}(hi:i<7)(hj:j<7)(h:(s+st*(i:Int)) % 7=(s+st*(j:Int)) % 7):i=j:=by
 have hs:st=1∨st=2∨st=3∨st=4∨st=5∨st=6:=by omega
 rcases hs with rfl | rfl | rfl | rfl | rfl | rfl <;> omega
theorem tab7(d:DS):z2c (some (z2h 0 7)) (z1N z3p (z0w (z0K (z1g (dC (.int 7))) z3p (dC (.bl false)))) d)=some ((ai 7 (ai 7 false)).map z3Q):=by
 rw[z2j (by simp[z2h])]
 rw[z1l]
 have hz:∀x∈ad 7,z0w (z0K (z1g (dC (.int 7))) z3p (dC (.bl false))) (d++[some (nD x)])=some (z3Q (ai 7 false)):=fun x _=>by
  have hz:z0K (z1g (dC (.int 7))) z3p (dC (.bl false)) (d++[some (nD x)])=some ((ai 7 false).map bD):=y2V (n:=7) rfl (by omega)
  rw[z7O,hz,z1o (z1V _)];rfl
 rw[z1F (fun _=>z3Q (ai 7 false)) hz]
 congr 1
theorem x3E(c:Int):hol (z2S [.int c]) fun d=>∃T:List (List Bool),d=z0G T∧Ant 7 T:=by
 refine z6s rfl ?_
 obtain⟨cc,hcc⟩:∃cc:Int,o2 z2J (some (.int c)) (x1W (.int 10) (.int 12))=some (.int cc):=by
  have pw:x1W (.int 10) (.int 12)=some (.int (10 ^ 12)):=y3y 12 (by omega)
  rw[pw,eo_2,z1Q (by omega)]
  exact⟨_,rfl⟩
 obtain⟨p,ep,hp⟩:=z5a (x:=cc) (n:=2) (by omega)
 obtain⟨q,eq',hq⟩:=z5a (x:=cc / 2) (n:=2) (by omega)
 obtain⟨r,er,hr⟩:=z5a (x:=cc / 4) (n:=2) (by omega)
 obtain⟨t,et,ht⟩:=z5a (x:=cc / 8) (n:=6) (by omega)
 have mp:z2J (.int cc) (.int 2)=some (.int (p:Int)):=by rw[z1Q (by omega)];exact congrArg _ (congrArg _ ep)
 have mq:z2J (.int (cc / 2)) (.int 2)=some (.int (q:Int)):=by rw[z1Q (by omega)];exact congrArg _ (congrArg _ eq')
 have mr:z2J (.int (cc / 4)) (.int 2)=some (.int (r:Int)):=by rw[z1Q (by omega)];exact congrArg _ (congrArg _ er)
 have mt:z2J (.int (cc / 8)) (.int 6)=some (.int (t:Int)):=by rw[z1Q (by omega)];exact congrArg _ (congrArg _ et)
 have v2:z6Z (.int cc) (.int 2)=some (.int (cc / 2)):=z5B ⟨by omega,by omega⟩
 have v4:z6Z (.int cc) (.int 4)=some (.int (cc / 4)):=z5B ⟨by omega,by omega⟩
 have v8:z6Z (.int cc) (.int 8)=some (.int (cc / 8)):=z5B ⟨by omega,by omega⟩
 have v48:z6Z (.int cc) (.int 48)=some (.int (cc / 48)):=z5B ⟨by omega,by omega⟩
 have u2:y9Q (.int 2) (.int (q:Int))=some (.int (2*(q:Int))):=x1s (.inl (by omega))
 have a1:(4:Int)+(p:Int)=((4+p:Nat):Int):=by omega
 have a2:(5:Int) - (p:Int)=((5 - p:Nat):Int):=by omega
 have a3:(4:Int)+2*(q:Int)=((4+2*q:Nat):Int):=by omega
 have a4:(6:Int) - 2*(q:Int)=((6 - 2*q:Nat):Int):=by omega
 have a5:(5:Int)+(r:Int)=((5+r:Nat):Int):=by omega
 have a6:(6:Int) - (r:Int)=((6 - r:Nat):Int):=by omega
 obtain⟨n1,hn1⟩:∃n,n=4+p:=⟨_,rfl⟩
 obtain⟨n2,hn2⟩:∃n,n=5 - p:=⟨_,rfl⟩
 obtain⟨n3,hn3⟩:∃n,n=4+2*q:=⟨_,rfl⟩
 obtain⟨n4,hn4⟩:∃n,n=6 - 2*q:=⟨_,rfl⟩
 obtain⟨n5,hn5⟩:∃n,n=5+r:=⟨_,rfl⟩
 obtain⟨n6,hn6⟩:∃n,n=6 - r:=⟨_,rfl⟩
 rw[←hn1]at a1
 rw[←hn2]at a2
 rw[←hn3]at a3
 rw[←hn4]at a4
 rw[←hn5]at a5
 rw[←hn6]at a6
 have small:∀(rows:List (List Nat)) (k v n i:Nat),(∀i,(rows.getD i []).length≤n)->((apR rows k v).getD i []).length≤n+1:=fun rows k v n i h=>by
  unfold apR
  rw[aB,bQ]
  split
  ·split
   ·rw[cA,aD]
    have:=h k
    simp at this ⊢
    omega
   ·exact bu _
  ·have:=h i
   rw[aB]at this
   omega
 have s0:∀i,(rows0.getD i []).length≤3:=fun i=>by
  have:∀i<7,(rows0.getD i []).length≤3:=by decide
  by_cases hi:i<7
  ·exact this i hi
  ·rw[aB,c7 (by show 7≤i;omega)]
   exact bu _
 have s1:∀i,((apR rows0 n1 n2).getD i []).length≤4:=fun i=>small _ _ _ _ i s0
 have s2:∀i,((apR (apR rows0 n1 n2) n3 n4).getD i []).length≤5:=fun i=>small _ _ _ _ i s1
 have b1:m1V y0U (some (rwD rows0)) (some (.int (n1:Int))) (some [.int (n2:Int)])=some (rwD (apR rows0 n1 n2)):=y3w (by show n1<7;omega) (by have:=s0 n1;omega)
 have b2:m1V y0U (some (rwD (apR rows0 n1 n2))) (some (.int (n3:Int))) (some [.int (n4:Int)])=some (rwD (apR (apR rows0 n1 n2) n3 n4)):=y3w (by unfold apR;rw[bY];show n3<7;omega) (by have:=s1 n3;omega)
 have b3:m1V y0U (some (rwD (apR (apR rows0 n1 n2) n3 n4))) (some (.int (n5:Int))) (some [.int (n6:Int)])=some (rwD (apR (apR (apR rows0 n1 n2) n3 n4) n5 n6)):=y3w (by unfold apR;rw[bY,bY];show n5<7;omega) (by have:=s2 n5;omega)
 have e3:apR (apR (apR rows0 n1 n2) n3 n4) n5 n6=y5Z p q r:=by rw[hn1,hn2,hn3,hn4,hn5,hn6];rfl
 obtain⟨RL,RO⟩:=rows_ok hp hq hr
 rw[e3]at b3
 obtain⟨rows,hrows⟩:∃rows,rows=y5Z p q r:=⟨_,rfl⟩
 rw[←hrows]at b3 RL RO
 have im:∀n:Nat,y6l (some [D.int (n:Int)])=some [D.int (n:Int)]:=fun n=>y0i rfl
 have i0:D.lst [D.lst [.int 1,.int 2,.int 3],D.lst [.int 2,.int 5],D.lst [.int 3,.int 6],D.lst [.int 1,.int 4],D.lst [.int 0,.int 1,.int 2],D.lst [.int 0,.int 2,.int 3],D.lst [.int 0,.int 1,.int 3]]=rwD rows0:=rfl
 obtain⟨s,hs⟩:∃s:Int,s=cc / 48:=⟨_,rfl⟩
 rw[←hs]at v48
 obtain⟨st,hst⟩:∃st:Nat,1+(t:Int)=(st:Int):=⟨1+t,by omega⟩
 have hst1:1≤(st:Int)∧(st:Int)≤6:=by omega
 have r7:x2S (some (.int 7))=some (z2h 0 7):=z1J (m:=7) (by omega)
 obtain⟨pl,hpl⟩:∃pl:Nat->Nat,∀k:Nat,(s+(st:Int)*(k:Int)) % 7=(pl k:Int)∧pl k<7:=⟨fun k=>((s+(st:Int)*(k:Int)) % 7).toNat,fun k=>by
  have h1:=d9 (s+(st:Int)*(k:Int)) (show(7:Int)≠0 by omega)
  have h2:=dA (s+(st:Int)*(k:Int)) (show(0:Int)<7 by omega)
  show(s+(st:Int)*(k:Int)) % 7=((((s+(st:Int)*(k:Int)) % 7).toNat:Nat):Int)∧((s+(st:Int)*(k:Int)) % 7).toNat<7
  generalize (s+(st:Int)*(k:Int)) % 7=x at h1 h2 ⊢
  omega⟩
 have inj:∀i<7,∀j<7,pl i=pl j->i=j:=fun i hi j hj h=>pl_inj hst1.1 hst1.2 hi hj (by rw[(hpl i).1,(hpl j).1,h])
 have cp:∀d1 d3 d4 d5 d6:Option D,z2c (some (z2h 0 7)) (z1N z3p (d2 z2J (d2 z8o (d2 z6Z (z0c 0) (dC (.int 48))) (d2 y9Q (z0c 2) (z0c 7))) (dC (.int 7))) [some (.int cc),d1,some (.int (st:Int)),d3,d4,d5,d6])=some (((ad 7).map pl).map nD):=fun d1 d3 d4 d5 d6=>by
  rw[z1l,aJ]
  refine z5l (fun k=>nD (pl k)) (by simp) fun k hk=>?_
  have u:y9Q (.int (st:Int)) (.int (k:Int))=some (.int ((st:Int)*(k:Int))):=x1s (.inl (by omega))
  have w:z2J (.int (s+(st:Int)*(k:Int))) (.int 7)=some (.int (pl k:Int)):=by rw[z1Q (by omega),(hpl k).1]
  simp! only[nD,v48,u,w]
 obtain⟨P,hP⟩:∃P,P=(ad 7).map pl:=⟨_,rfl⟩
 have ixP:∀k:Nat,k<7->ixD (thD P) (.int (k:Int))=some (.int ((pl k:Nat):Int)):=fun k hk=>by
  rw[hP]
  exact y2n (by rw[ay,ay,cI hk];rfl)
 have cp':∀d1 d3 d4 d5 d6:Option D,z2c (some (z2h 0 7)) (z1N z3p (d2 z2J (d2 z8o (d2 z6Z (z0c 0) (dC (.int 48))) (d2 y9Q (z0c 2) (z0c 7))) (dC (.int 7))) [some (.int cc),d1,some (.int (st:Int)),d3,d4,d5,d6])=some (P.map nD):=fun d1 d3 d4 d5 d6=>by rw[cp,hP]
 have tl:∀W:List Nat,D.lst (W.map nD)=thD W:=fun _=>rfl
 have tt:D.lst ((ai 7 (ai 7 false)).map z3Q)=z0G (ai 7 (ai 7 false)):=rfl
 simp! only[z4e,ev_lit,i0,hcc,mp,a1,a2,im,b1,v2,mq,u2,a3,a4,b2,v4,mr,a5,a6,b3,v8,mt,hst,r7,cp',z3d,tl,tab7,tt]
 refine z0z (I:=fun z=>∃(T:List (List Bool)) (o1 o3 o5 o6:Option SD),z=[some (.sh (.int cc)),o1,some (.sh (.int (st:Int))),o3,some (.ow (z0G T)),o5,o6]∧Ant 7 T) ?_ ?_
 ·refine z7n (fun k z=>∃(T:List (List Bool)) (o5 o6:Option SD),z=[some (.sh (.int cc)),some (.sh (rwD rows)),some (.sh (.int (st:Int))),some (.ow (thD P)),some (.ow (z0G T)),o5,o6]∧Sq 7 T∧∀a b,at2 T a b=true->∃i<7,∃j∈rows.getD i [],a=pl i∧b=pl j) ⟨ai 7 (ai 7 false),_,_,rfl,⟨rfl,fun r hr=>by rw[List.eq_of_mem_replicate hr];rfl⟩,fun a b h=>by rw[y7i]at h;cases h⟩ ?_ ?_
  ·rintro k hk z ⟨T,o5,o6,rfl,sq,hT⟩
   have ixr:ixD (rwD rows) (.int (k:Int))=some (thD (rows.getD k [])):=by
    have hk':k<rows.length:=by omega
    have hg:rows.getD k []=rows[k]:=by rw[aB,ac hk'];rfl
    rw[hg]
    exact y2n (by rw[ay,ac hk'];rfl)
   obtain⟨row,hrow⟩:∃row,row=rows.getD k []:=⟨_,rfl⟩
   rw[←hrow]at ixr
   simp! only[eY,ixr,z4E]
   refine z3j (enc:=nD) (fun pre z=>∃(T:List (List Bool)) (o6:Option SD),z=[some (.sh (.int cc)),some (.sh (rwD rows)),some (.sh (.int (st:Int))),some (.ow (thD P)),some (.ow (z0G T)),some (.sh (.int (k:Int))),o6]∧Sq 7 T∧∀a b,at2 T a b=true->∃i<7,∃j∈rows.getD i [],a=pl i∧b=pl j) ⟨T,_,rfl,sq,hT⟩ ?_ fun z ⟨T,o6,e,sq,hT⟩=>⟨T,_,o6,e,sq,hT⟩
   rintro pre j post e z ⟨T,o6,rfl,sq,hT⟩
   have hj:j∈rows.getD k []:=by rw[←hrow,e];simp
   have hj7:=(RO k hk j hj).1
   have h1:pl k<T.length:=by rw[sq.1];exact(hpl k).2
   have h2:pl j<T[pl k].length:=by rw[sq.row h1];exact(hpl j).2
   have st1:=x3x (v:=true) h1 h2
   simp! only[nD,ixP k hk,ixP j hj7,st1,z0d]
   refine⟨_,_,rfl,sq.set h1,fun a b hab=>?_⟩
   rw[at2_set h1 h2]at hab
   split at hab
   ·rename_i h
    exact⟨k,hk,j,hj,h.1,h.2⟩
   ·exact hT a b hab
  ·rintro z ⟨T,o5,o6,rfl,sq,hT⟩
   refine⟨_,rfl,T,_,_,_,_,rfl,sq,fun i hi=>?_,fun a ha b hb hab=>?_⟩
   ·cases h:at2 T i i with
    |false=>rfl
    |true=>
     obtain⟨x,hx,y,hy,e1,e2⟩:=hT i i h
     have h3:=RO x hx y hy
     exact absurd (inj x hx y h3.1 (e1.symm.trans e2)).symm h3.2.1
   ·cases h:at2 T b a with
    |false=>rfl
    |true=>
     obtain⟨x,hx,y,hy,e1,e2⟩:=hT a b hab
     obtain⟨x',hx',y',hy',e1',e2'⟩:=hT b a h
     have h3:=RO x hx y hy
     have h3':=RO x' hx' y' hy'
     have k1:x=y':=inj x hx y' h3'.1 (e1.symm.trans e2')
     have k2:y=x':=inj y h3.1 x' hx' (e2.symm.trans e1')
     rw[←k1,←k2]at hy'
     exact absurd hy' h3.2.2
 ·rintro z ⟨T,o1,o3,o5,o6,rfl,A⟩
  simp! only[z0d]
  exact⟨_,rfl,T,rfl,A⟩
theorem Full.ant{m:Nat}{T:List (List Bool)}(F:Full m T):Ant m T:=⟨F.sq,F.own,fun i hi j hj h=>by
 have hne:i≠j:=fun z=>by
  subst z
  rw[F.own i hi]at h
  cases h
 have:=F.two i hi j hj hne
 rw[h]at this
 cases e:at2 T j i with
 |false=>rfl
 |true=>rw[e]at this;cases this⟩
theorem cr_unc{m:Nat}{T:List (List Bool)}(A:Ant m T){a:Nat}(ha:a<m)(h:crB T m a=true):y6X T m a=true:=by
 obtain⟨c,hc,hcr⟩:=ca.mp (show(hdL T a m).any (crP T m)=true from h)
 obtain⟨q1,⟨r,rfl⟩,q3⟩:=hd_ok ha (A.own a ha) (am m) c hc
 have h1':(∀x∈r,at2 T a x=true):=aI.mp (ax.mp (show(r.all (fun j=>at2 T a j)&&chB T r)=true from q1)).1
 unfold y6X
 rw[cR,b6]
 intro b hb hcov
 obtain⟨k1,k2⟩:=cov_iff.mp hcov
 obtain⟨y,hy,e⟩:=bt_nil.mp hcr b (ak.mp hb)
 rcases ao.mp hy with z | z
 ·rw[z,k1]at e;cases e
 ·rw[k2 y (q3 y hy) (h1' y z)]at e;cases e
theorem y9t{m:Nat}{p:Nat->Bool}{k:Nat}(hk:k<m):((ad m).filter p).contains k=p k:=by
 rw[dW,aR,ag,ak]
 exact⟨fun z=>z.2,fun z=>⟨hk,z⟩⟩
structure Std(T:List (List Bool))(m:Nat)(P U C:List Nat)(W:List Int):Prop where
 p:z1U [z0G T]=some (thD P)
 u:z0X [z0G T]=some (thD U)
 c:z3y [z0G T]=some (thD C)
 w:z1W [z0G T]=some (z4H W)
 len:W.length=m
 cu:∀t<m,C.contains t=true->U.contains t=true
 wu:∀t<m,0<W.getD t 0->U.contains t=true
 up:∀t<m,U.contains t=true->P.contains t=true
theorem std_of{m:Nat}{T:List (List Bool)}(F:Full m T)(h0:0<m)(hm:m≤8):∃P U C W,Std T m P U C W:=by
 obtain⟨_,ew,S,O,hu,he,rfl⟩:=y3N F h0 hm
 have hS:=O.first
 have hu0:=hu _ hS
 have hl:=O.lt _ hS
 have iU:∀k<m,(y4A T m).contains k=y6X T m k:=fun k hk=>y9t hk
 refine⟨plL (y0O T m) m,y4A T m,(ad m).filter (crB T m),wtS T m S,y6D F.sq (by omega) h0 (c8 (y7Q F hl hu0)),z6F F.sq (by omega),y8X F.ant hm,ew,y7p,fun t ht h=>?_,fun t ht h=>?_,fun t ht h=>?_⟩
 ·rw[y9t ht]at h
  rw[iU t ht]
  exact cr_unc F.ant ht h
 ·rw[iU t ht]
  by_cases hs:t∈S
  ·exact hu t hs
  ·rw[y5M ht hs]at h
   exact absurd h (by omega)
 ·rw[iU t ht]at h
  exact aR.mpr (plL_mem.mpr (y7Q F ht h))
def stdD(P U C:List Nat)(W:List Int)(t:Nat):D:=.tup [.bl (P.contains t),.bl (U.contains t),.bl (C.contains t),.bl (decide (W.getD t 0>0))]
theorem w_at{W:List Int}{t:Nat}(h:t<W.length):ixD (z4H W) (.int (t:Int))=some (.int (W.getD t 0)):=by
 show atI (W.map D.int) (t:Int)=_
 refine z1u ?_
 rw[ay,ac h,aB,ac h]
 rfl
theorem x0G{P U C:List Nat}{W:List Int}{t:Nat}:y5g (some (stdD P U C W t))=some (stdD P U C W t):=y2l rfl
theorem y3z{m:Nat}{T:List (List Bool)}{P U C:List Nat}{W:List Int}(S:Std T m P U C W){t:Nat}(ht:t<m):z2w [z0G T,.int (t:Int)]=some (stdD P U C W t):=by
 refine z0s rfl ?_
 have wa:=w_at (W:=W) (t:=t) (by rw[S.len];exact ht)
 have im:=x0G (P:=P) (U:=U) (C:=C) (W:=W) (t:=t)
 unfold stdD at im ⊢
 simp! only[z3t,S.p,S.u,S.c,S.w,x0e,wa,im,z0d]
theorem x1Q{xs:List D}{d:D}:atI (xs++[d]) (-1)=some d:=by
 unfold atI ixN
 rw[if_neg (by omega),if_pos (by simp;omega),aj]
 have:((-1:Int)+((xs++[d]).length:Int)).toNat=xs.length:=by simp;omega
 rw[this]
 simp
theorem x2g{bs:List (Int×List Int)}{b:Int×List Int}:ixD (z1P (bs++[b])) (.int (-1))=some (z1f b):=by
 show atI ((bs++[b]).map z1f) (-1)=_
 rw[aF]
 exact x1Q
theorem vol_app{bs:List (Int×List Int)}{b:Int×List Int}:z6t (bs++[b])=z6t bs+b.1:=by
 unfold z6t
 simp
theorem y0G{b:Int×List Int}:y6l (some [z1f b])=some [z1f b]:=y0i (z2K [b])
structure Vts(m:Nat)(bs:List (Int×List Int)):Prop where
 good:∀b∈bs,Good2 m b
 odd:z6t bs % 2=1
theorem y7U{m:Nat}(h0:0<m)(hm:m≤8)(ns:List Int)(hns:ns.length≤63):hol (z2U [.scr ns,.int (m:Int)]) fun d=>∃bs,d=z1P bs∧Vts m bs∧bs.length≤64:=by
 refine z6s rfl ?_
 obtain⟨cs,ec,hcl⟩:=x3b ns (some 1) (some 40)
 have p40:x1W (.int 10) (.int 40)=some (.int (10 ^ 40)):=y3y 40 (by omega)
 have p30:x1W (.int 10) (.int 30)=some (.int (10 ^ 30)):=y3y 30 (by omega)
 obtain⟨a40,e40⟩:∃a:Int,a=10 ^ 40:=⟨_,rfl⟩
 obtain⟨a30,e30⟩:∃a:Int,a=10 ^ 30:=⟨_,rfl⟩
 have g30:0<a30:=by rw[e30];decide
 have g40:0<a40:=by rw[e40];decide
 rw[←e40]at p40
 rw[←e30]at p30
 have v0:D.lst []=z1P []:=rfl
 simp! only[z4j,z6W,v0,ec]
 refine z0z (I:=fun s=>∃bs o4 o5,s=[some (.sh (.scr ns)),some (.sh (.int (m:Int))),some (.ow (z1P bs)),some (.sh (.int (z6t bs))),o4,o5]∧(∀b∈bs,Good2 m b)∧bs.length≤63) ?_ ?_
 ·refine z3j (enc:=D.int) (xs:=cs) (fun pre s=>∃bs o4 o5,s=[some (.sh (.scr ns)),some (.sh (.int (m:Int))),some (.ow (z1P bs)),some (.sh (.int (z6t bs))),o4,o5]∧(∀b∈bs,Good2 m b)∧bs.length=pre.length) ⟨[],_,_,rfl,(fun b hb=>nomatch hb),rfl⟩ ?_ ?_
  ·rintro pre c post e s ⟨bs,o4,o5,rfl,hg,hl⟩
   have hpl:pre.length≤63:=by
    have:=congrArg List.length e
    rw[aD]at this
    omega
   obtain⟨r,hr,r0,r1⟩:∃r:Int,z2J (.int c) (.int a40)=some (.int r)∧0≤r∧r<a40:=⟨_,z1Q g40,d9 _ (by omega),dA _ g40⟩
   have d7:z6Z (.int r) (.int 7)=some (.int (r / 7)):=z5B ⟨by omega,by omega⟩
   have d21:z6Z (.int r) (.int 21)=some (.int (r / 21)):=z5B ⟨by omega,by omega⟩
   have m2:z2J (.int r) (.int 2)=some (.int (r % 2)):=z1Q (by omega)
   obtain⟨n,hn,n0⟩:∃n:Int,atI [D.int 3,.int a30] (r % 2)=some (.int n)∧0<n:=by
    rcases Int.emod_two_eq r with z | z
    ·rw[z];exact⟨3,y8e,by omega⟩
    ·rw[z];exact⟨a30,x1w,g30⟩
   have mn:z2J (.int (r / 7)) (.int n)=some (.int (r / 7 % n)):=z1Q n0
   obtain⟨_,eo,o,rfl,hp⟩:=x2G (m:=m) (by omega) (r / 21)
   obtain⟨b,hb⟩:∃b:Int×List Int,b=(1+r / 7 % n,o):=⟨_,rfl⟩
   have tb:D.tup [.int (1+r / 7 % n),z2i o]=z1f b:=by rw[hb];rfl
   have b0:ixD (z1f b) (.int 0)=some (.int b.1):=z7j
   have ap:=z6V (bs:=bs) (b:=b) (by omega)
   have vl:z6t bs+b.1=z6t (bs++[b]):=vol_app.symm
   obtain⟨bs',hbs⟩:∃bs',bs'=bs++[b]:=⟨_,rfl⟩
   have lb:ixD (z1P bs') (.int (-1))=some (z1f b):=by rw[hbs];exact x2g
   rw[←hbs]at ap vl
   simp! only[p40,hr,d7,d21,p30,m2,hn,mn,eo,tb,y0G,ap,lb,b0,vl,z0d]
   refine⟨bs',_,_,rfl,fun x hx=>?_,by rw[hbs,aD,aD,hl];rfl⟩
   rw[hbs]at hx
   rcases au.mp hx with hx | hx
   ·exact hg x hx
   ·rw[aq.mp hx,hb];exact⟨hp⟩
  ·rintro s ⟨bs,o4,o5,rfl,hg,hl⟩
   exact⟨_,rfl,bs,_,_,rfl,hg,by omega⟩
 ·rintro s ⟨bs,o4,o5,rfl,hg,hl⟩
  have m2:z2J (.int (z6t bs)) (.int 2)=some (.int (z6t bs % 2)):=z1Q (by omega)
  have sm:z8N (some (z2h 0 m))=some (z2h 0 m):=y0k (by rw[z1l];simp;omega)
  have tb:D.tup [.int 1,z2i (z5E m)]=z1f (1,z5E m):=rfl
  have ap:=z6V (bs:=bs) (b:=(1,z5E m)) (by omega)
  simp! only[m2,z1J (show m≤1000000 by omega),sm,y3J,tb,y0G,ap]
  by_cases h:z6t bs % 2=0
  ·rw[decide_eq_true h]
   simp! only[z0d]
   refine⟨_,rfl,_,rfl,⟨fun x hx=>?_,by rw[vol_app];show(z6t bs+1) % 2=1;omega⟩,by simp;omega⟩
   rcases au.mp hx with hx | hx
   ·exact hg x hx
   ·rw[aq.mp hx];exact⟨.refl _⟩
  ·rw[decide_eq_false h]
   simp! only[z0d]
   exact⟨_,rfl,_,rfl,⟨hg,by omega⟩,by omega⟩
theorem at_tab{m:Nat}{T:List (List Bool)}(sq:Sq m T){i j:Nat}(hi:i<m)(hj:j<m):∃r,ixD (z0G T) (.int (i:Int))=some (z3Q r)∧ixD (z3Q r) (.int (j:Int))=some (.bl (at2 T i j)):=by
 have h1:i<T.length:=by rw[sq.1];exact hi
 have h2:j<(T[i]).length:=by rw[sq.2 _ (bT h1)];exact hj
 refine⟨T[i],?_,?_⟩
 ·show atI (T.map z3Q) (i:Int)=_
  exact z1u (by rw[ay,ac h1];rfl)
 ·show atI (T[i].map bD) (j:Int)=_
  refine z1u ?_
  rw[ay,ac h2]
  have e:T.getD i []=T[i]:=by rw[aB,ac h1];rfl
  unfold at2
  rw[e,aB,ac h2]
  rfl
def oth(m i j:Nat):List Nat:=(ad m).filter fun x=>!decide (x=i) && !decide (x=j)
theorem y4S{m i j:Nat}(hi:i<m)(hj:j<m)(h:i≠j):(i::j::oth m i j).Perm (ad m):=by
 refine(cN ?_ dH).mpr fun x=>?_
 ·refine aw.mpr ⟨fun z=>?_,aw.mpr ⟨fun z=>?_,List.nodup_range.filter _⟩⟩
  ·rcases ao.mp z with z | z
   ·exact h z
   ·have:=(ag.mp z).2
    simp at this
  ·have:=(ag.mp z).2
   simp at this
 ·rw[ao,ao,ak]
  constructor
  ·rintro (rfl | rfl | z)
   ·exact hi
   ·exact hj
   ·exact ak.mp (ag.mp z).1
  ·intro hx
   by_cases e1:x=i
   ·exact .inl e1
   by_cases e2:x=j
   ·exact .inr (.inl e2)
   ·refine .inr (.inr (ag.mpr ⟨ak.mpr hx,?_⟩))
    rw[decide_eq_false e1,decide_eq_false e2]
    rfl
def iN(o:List Nat):List Int:=o.map fun n=>((n:Nat):Int)
theorem y8T{o:List Nat}{m:Nat}(h:o.Perm (ad m)):(iN o).Perm (z5E m):=h.map _
theorem vof_eq{T:List (List Bool)}(A:Ant 7 T):hol (z1O [z0G T]) fun d=>∃bs,d=z1P bs∧Vts 7 bs∧bs.length≤100:=by
 refine z6s rfl ?_
 have ln:z2t [z0G T]=some (.int (7:Nat)):=by rw[z2C,A.sq.1]
 have ln:z2t [z0G T]=some (.int 7):=ln
 have r7:x2S (some (.int 7))=some (z2h 0 7):=z1J (m:=7) (by omega)
 have sm:z8N (some (z2h 0 7))=some (z2h 0 7):=y0k (by rw[z1l];simp)
 have ro:D.tup (z2h 0 7)=z2i (z5E 7):=y3J
 have fl:z6k (some [D.tup [.int 1,z2i (z5E 7)]])=some [D.tup [.int 1,z2i (z5E 7)]]:=z1o (z2K [(1,z5E 7)])
 have t0:D.lst [.tup [.int 1,z2i (z5E 7)]]=z1P [(1,z5E 7)]:=rfl
 simp! only[z2H,ln,r7,sm,ro,fl,t0]
 refine z0z (I:=fun s=>∃bs o2 o3 o4,s=[some (.sh (z0G T)),some (.ow (z1P bs)),o2,o3,o4]∧Vts 7 bs∧bs.length≤100) ?_ ?_
 ·refine z7n (fun k s=>∃bs o2 o3 o4,s=[some (.sh (z0G T)),some (.ow (z1P bs)),o2,o3,o4]∧Vts 7 bs∧bs.length≤1+14*k) ⟨_,_,_,_,rfl,⟨fun b hb=>by rw[aq.mp hb];exact⟨.refl _⟩,rfl⟩,by simp⟩ ?_ ?_
  ·rintro i hi s ⟨bs,o2,o3,o4,rfl,V,hl⟩
   have zi:(0:Int)+(i:Int)=(i:Int):=by omega
   simp! only[ln,r7,zi]
   refine z7n (fun j s=>∃bs o3 o4,s=[some (.sh (z0G T)),some (.ow (z1P bs)),some (.sh (.int (i:Int))),o3,o4]∧Vts 7 bs∧bs.length≤1+14*i+2*j) ⟨bs,_,_,rfl,V,by omega⟩ ?_ ?_
   ·rintro j hj s ⟨bs,o3,o4,rfl,V,hl⟩
    have zj:(0:Int)+(j:Int)=(j:Int):=by omega
    obtain⟨rw_,e1,e2⟩:=at_tab A.sq hi hj
    simp! only[zj,e1,e2]
    cases ha:at2 T i j with
    |false=>
     simp! only[z0d]
     exact⟨bs,_,_,rfl,V,by omega⟩
    |true=>
     have hij:i≠j:=fun z=>by
      subst z
      rw[A.own i hi]at ha
      cases ha
     have cx:∀o4,z2c (some (z2h 0 7)) (z1N (z3e (z0H (d2 neD (z0c 5) (z0c 2))) (z0H (d2 neD (z0c 5) (z0c 3)))) (z0c 5) [some (z0G T),some (z1P bs),some (.int (i:Int)),some (.int (j:Int)),o4])=some ((oth 7 i j).map nD):=fun o4=>by
      rw[show z2h 0 7=(ad 7).map nD from z1l]
      refine z8C (enc:=nD) (xs:=ad 7) (fun x=>!decide (x=i) && !decide (x=j)) nD (by simp) (fun x _=>?_) fun x _ _=>by simp! only[]
      have d1:decide ((x:Int)=(i:Int))=decide (x=i):=by congr 1;rw[eq_iff_iff];omega
      have d2:decide ((x:Int)=(j:Int))=decide (x=j):=by congr 1;rw[eq_iff_iff];omega
      simp! only[nD,d1,d2]
     have f1:=z3d (oth 7 i j)
     have hlo:(oth 7 i j).length≤7:=by
      have:=aX (fun x=>!decide (x=i) && !decide (x=j)) (ad 7)
      rw[aW]at this
      exact this
     have c1:x1P (some (.lst [.int (i:Int),.int (j:Int)])) (some (.lst ((oth 7 i j).map nD)))=some ((i::j::oth 7 i j).map nD):=z8I (by simp;omega)
     have c2:x1P (some (.lst ((oth 7 i j).map nD).reverse)) (some (.lst [.int (i:Int),.int (j:Int)]))=some (((oth 7 i j).reverse++[i,j]).map nD):=by
      rw[z8I (by simp;omega),aF,List.map_reverse]
      rfl
     have od:∀o:List Nat,x1U [.lst (o.map nD)]=some (z2i (iN o)):=fun o=>by
      show some (D.tup (o.map nD))=some (D.tup ((o.map _).map D.int))
      rw[aJ]
      rfl
     have p1:=y8T (y4S hi hj hij)
     have p2:(iN ((oth 7 i j).reverse++[i,j])).Perm (z5E 7):=y8T (by
      refine(List.perm_append_comm.trans ?_).trans (y4S hi hj hij)
      exact((List.reverse_perm _).cons _).cons _)
     obtain⟨x1,h1⟩:∃x,x=iN (i::j::oth 7 i j):=⟨_,rfl⟩
     obtain⟨x2,h2⟩:∃x,x=iN ((oth 7 i j).reverse++[i,j]):=⟨_,rfl⟩
     have o1:=od (i::j::oth 7 i j)
     have o2:=od ((oth 7 i j).reverse++[i,j])
     rw[←h1]at o1 p1
     rw[←h2]at o2 p2
     obtain⟨l1,k1⟩:∃l,l=(i::j::oth 7 i j).map nD:=⟨_,rfl⟩
     obtain⟨l2,k2⟩:∃l,l=((oth 7 i j).reverse++[i,j]).map nD:=⟨_,rfl⟩
     rw[←k1]at c1 o1
     rw[←k2]at c2 o2
     have t1:D.tup [.int 1,z2i x1]=z1f (1,x1):=rfl
     have t2:D.tup [.int 1,z2i x2]=z1f (1,x2):=rfl
     have a1:=z6V (bs:=bs) (b:=(1,x1)) (by omega)
     have a2:=z6V (bs:=bs++[(1,x1)]) (b:=(1,x2)) (by simp;omega)
     obtain⟨bs1,hb1⟩:∃x,x=bs++[(1,x1)]:=⟨_,rfl⟩
     rw[←hb1]at a1 a2
     simp! only[ln,r7,cx,f1,c1,c2,o1,o2,t1,t2,y0G,a1,a2,z0d]
     refine⟨_,_,_,rfl,⟨fun b hb=>?_,?_⟩,?_⟩
     ·rw[hb1]at hb
      rcases au.mp hb with hb | hb
      ·rcases au.mp hb with hb | hb
       ·exact V.good b hb
       ·rw[aq.mp hb];exact⟨p1⟩
      ·rw[aq.mp hb];exact⟨p2⟩
     ·rw[hb1,vol_app,vol_app]
      have:=V.odd
      show(z6t bs+1+1) % 2=1
      omega
     ·rw[hb1]
      simp
      omega
   ·rintro s ⟨bs,o3,o4,rfl,V,hl⟩
    exact⟨bs,_,_,_,rfl,V,by omega⟩
  ·rintro s ⟨bs,o2,o3,o4,rfl,V,hl⟩
   exact⟨_,rfl,bs,_,_,_,rfl,V,by omega⟩
 ·rintro s ⟨bs,o2,o3,o4,rfl,V,hl⟩
  simp! only[z0d]
  exact⟨_,rfl,bs,rfl,V,hl⟩
section
variable{g h:SS->Option Out}{s:SS}{o:Out}
theorem alt_l(e:g s=some o):altO g h s=some o:=by unfold altO;rw[e]
theorem alt_r(e:g s=none):altO g h s=h s:=by unfold altO;rw[e]
end
theorem kM{b:Int×List Int}:okN 2 (z1f b):=y3b fun d hd=>by
 rcases ao.mp hd with rfl | hd
 ·exact okN_up x1v (by omega)
 ·rw[aq.mp hd]
  exact x3N (f:=D.int) fun _ _=>x1v
theorem x5D(bs:List (Int×List Int)):okN 3 (z1P bs):=okN_map fun b _=>kM
theorem z7f{bs:List (Int×List Int)}{k:Nat}(h:k≤bs.length):cut3 (some (z1P bs)) (some none) (some (some (k:Int)))=some ((bs.take k).map z1f):=by
 show some (z5k (bs.map z1f) none (some (k:Int)))=_
 rw[y1h (by rw[ah];exact h),←dg]
theorem z5p{bs:List (Int×List Int)}{k:Nat}:cut3 (some (z1P bs)) (some (some (k:Int))) (some none)=some ((bs.drop k).map z1f):=by
 show some (z5k (bs.map z1f) (some (k:Int)) none)=_
 rw[y2y,←dh]
def y0V(bs:List (Int×List Int))(k:Nat)(b:Int×List Int):List (Int×List Int):=bs.take k++[b]++bs.drop (k+1)
section
variable{bs:List (Int×List Int)}{k:Nat}{v:Int}{o:List Int}{t:Int}
theorem y9q(h:k<bs.length)(hl:bs.length≤1000){b:Int×List Int}:x1P (some (.lst ((bs.take k).map z1f))) (some (.lst [z1f b]))=some ((bs.take k++[b]).map z1f)∧x1P (some (.lst ((bs.take k++[b]).map z1f))) (some (.lst ((bs.drop (k+1)).map z1f)))=some ((y0V bs k b).map z1f):=by
 constructor
 ·rw[z8I (by simp;omega),aF]
  rfl
 ·rw[z8I (by simp;omega)]
  unfold y0V
  rw[←aF]
theorem x0Y(h:bs[k]? = some (v,o))(hl:bs.length≤1000)(ho:o.length≤1000)(ht:t∈o)(hp:plc o t≠0):z1x [z1P bs,.int (k:Int),.int t]=some (.val (z1P (y0V bs k (v,upO o t)))):=by
 refine y3U rfl ?_
 have hk:k<bs.length:=(aO.mp h).1
 have ix:ixD (z1P bs) (.int (k:Int))=some (z1f (v,o)):=by
  show atI (bs.map z1f) (k:Int)=_
  exact z1u (by rw[ay,h];rfl)
 have im:y5g (some (z1f (v,o)))=some (z1f (v,o)):=y2l (z2v o |> fun z=>by show(true&&((z2i o).imm&&true))=true;rw[show(z2i o).imm=true from z];rfl)
 have b0:ixD (z1f (v,o)) (.int 0)=some (.int v):=z7j
 have b1:ixD (z1f (v,o)) (.int 1)=some (z2i o):=z6e
 have ro:=z8m ho ht hp
 have tb:D.tup [.int v,z2i (upO o t)]=z1f (v,upO o t):=rfl
 obtain⟨c1,c2⟩:=y9q hk hl (b:=(v,upO o t))
 have a1:z8o (.int (k:Int)) (.int 1)=some (.int ((k+1:Nat):Int)):=by rw[y1n];congr 2
 have ct:=z7f (bs:=bs) (k:=k) (by omega)
 have cd:=z5p (bs:=bs) (k:=k+1)
 have fl:=z1o (z2K (y0V bs k (v,upO o t)))
 have rt:D.lst ((y0V bs k (v,upO o t)).map z1f)=z1P (y0V bs k (v,upO o t)):=rfl
 obtain⟨X,hX⟩:∃X,X=y0V bs k (v,upO o t):=⟨_,rfl⟩
 obtain⟨Y,hY⟩:∃Y,Y=bs.take k++[(v,upO o t)]:=⟨_,rfl⟩
 rw[←hX]at c2 fl rt ⊢
 rw[←hY]at c1 c2
 simp! only[z1Y,ix,im,b0,b1]
 refine⟨_,alt_l ?_,rfl⟩
 simp! only[b0,b1,ro,tb,ct,cd,a1,c1,c2,fl,rt]
theorem y9G(h:bs[k]? = some (v,o))(ht:t∈o)(hp:plc o t=0):z1x [z1P bs,.int (k:Int),.int t]=some (.exc 3):=by
 refine y2L rfl ?_
 have hk:k<bs.length:=(aO.mp h).1
 have ix:ixD (z1P bs) (.int (k:Int))=some (z1f (v,o)):=by
  show atI (bs.map z1f) (k:Int)=_
  exact z1u (by rw[ay,h];rfl)
 have im:y5g (some (z1f (v,o)))=some (z1f (v,o)):=y2l (z2v o |> fun z=>by show(true&&((z2i o).imm&&true))=true;rw[show(z2i o).imm=true from z];rfl)
 have b0:ixD (z1f (v,o)) (.int 0)=some (.int v):=z7j
 have b1:ixD (z1f (v,o)) (.int 1)=some (z2i o):=z6e
 have ro:=z8b ht hp
 have ct:=z7f (bs:=bs) (k:=k) (by omega)
 have cd:=z5p (bs:=bs) (k:=k+1)
 have ve:valO (some (.exc 3))=none:=rfl
 simp! only[z1Y,ix,im,b0,b1]
 refine⟨.ex 3 [some (.sh (z1P bs)),some (.sh (.int (k:Int))),some (.sh (.int t)),some (.sh (z1f (v,o)))],(alt_r ?_).trans ?_,_,rfl⟩
 ·simp! only[b0,b1,ro,ve,ct]
  rfl
 ·unfold excO exR
  simp! only[ct,b0,b1,ro]
def y3i(bs:List (Int×List Int))(k:Nat)(v:Int)(o:List Int)(t:Int):D:=if plc o t=0 then .str "best" else z1P (y0V bs k (v,upO o t))
theorem told_eq(h:bs[k]? = some (v,o))(hl:bs.length≤1000)(ho:o.length≤1000)(ht:t∈o):z3s [z1P bs,.int (k:Int),.int t]=some (y3i bs k v o t):=by
 refine z0s rfl ?_
 unfold y3i
 by_cases hp:plc o t=0
 ·rw[if_pos hp]
  have x1:z6J ["NothingLeft"] ["Even", "BadBallot", "NothingLeft"] (.exc "NothingLeft")=some (.bl true):=rfl
  have x2:z6J ["Even", "BadBallot", "NothingLeft"] ["Even", "BadBallot", "NothingLeft"] (.exc "NothingLeft")=some (.bl true):=rfl
  have x3:z6J ["BadBallot"] ["Even", "BadBallot", "NothingLeft"] (.exc "NothingLeft")=some (.bl false):=rfl
  simp_all! only[z3E,y9G h ht hp,x1,x2,x3,z0d]
 ·rw[if_neg hp]
  simp_all! only[z3E,x0Y h hl ho ht hp,z0d]
end
theorem lix_int{o:List Int}{t:Int}(h:t∈o):lixF (.lst (o.map .int)) (.int t)=some (.int (plc o t:Int)):=by
 show((z2d (o.map .int)).bind fun ns=>(ns.findIdx? (fun n=>n==t)).map fun j=>D.int (j:Int))=_
 rw[y5n,aj,List.findIdx?_eq_guard_findIdx_lt]
 have hl:o.findIdx (fun n=>n==t)<o.length:=cv ⟨t,h,by simp⟩
 unfold plc
 simp[Option.guard,hl]
theorem x0y{m:Nat}{bs:List (Int×List Int)}{k:Nat}{v:Int}{o:List Int}{t:Nat}(h:bs[k]? = some (v,o))(hl:bs.length≤1000)(g:Good2 m (v,o))(hm:m≤8)(ht:t<m):z1a [z1P bs,.int (k:Int),.int (t:Int)]=some (.bl true):=by
 refine z0s rfl ?_
 have hk:k<bs.length:=(aO.mp h).1
 have hmem:((t:Nat):Int)∈o:=g.mem ht
 have hol:o.length≤1000:=by have:=g.len;have:o.length=m:=this;omega
 have ix:ixD (z1P bs) (.int (k:Int))=some (z1f (v,o)):=by
  show atI (bs.map z1f) (k:Int)=_
  exact z1u (by rw[ay,h];rfl)
 have b0:ixD (z1f (v,o)) (.int 0)=some (.int v):=z7j
 have b1:ixD (z1f (v,o)) (.int 1)=some (z2i o):=z6e
 have li:y0x [z1P bs]=some (bs.map z1f):=rfl
 have fb:=z1o (z2K bs)
 have tv:D.lst (bs.map z1f)=z1P bs:=rfl
 have lo:y0x [z2i o]=some (o.map .int):=rfl
 have fo:=z1o (z2v o)
 have te:=told_eq h hl hol hmem
 have lx:=lix_int hmem
 have ns:=x0L (x5D bs) (by omega)
 unfold y3i at te
 simp! only[z1C,li,fb,tv,te,ix,b1,lo,fo,lx,ns]
 by_cases hp:plc o (t:Int)=0
 ·rw[if_pos hp]
  have d0:decide ((plc o (t:Int):Int)=0)=true:=decide_eq_true (by omega)
  have es:eqD (.str "best") (.str "best")=some (.bl true):=y8o (by decide +kernel) (by decide +kernel) (by decide +kernel)
  simp_all! only[d0,es,z0d]
 ·rw[if_neg hp]
  have d0:decide ((plc o (t:Int):Int)=0)=false:=decide_eq_false (by omega)
  have lt:=y5I hmem
  obtain⟨p,hpp⟩:∃p,plc o (t:Int)=p+1:=⟨plc o (t:Int) - 1,by omega⟩
  have up:upO o (t:Int)=o.take p++[(t:Int),o[p]'(by omega)]++o.drop (p+2):=by
   unfold upO
   rw[hpp,Nat.add_sub_cancel,ac (by omega)]
   rfl
  rw[hpp]at lt
  have s1:y4g (.int (plc o (t:Int):Int)) (.int 1)=some (.int (p:Int)):=by rw[y4b,hpp];congr 2;omega
  have ip:ixD (.lst (o.map D.int)) (.int (p:Int))=some (.int (o[p]'(by omega))):=by
   show atI _ _=_
   exact z1u (by rw[ac (by simp;omega),bU])
  have sv:∀{o:List Int} {k:Nat} {x:Int},k<o.length->st0V (some (.lst (o.map .int))) (some (.int (k:Int))) (some (.int x))=some (.lst ((o.set k x).map .int)):=fun {o k x} h=>by
   show(ixN (o.map D.int).length (k:Int)).map (fun j=>D.lst ((o.map D.int).set j (.int x)))=_
   rw[y7S (by simpa using h),bx,←cY]
  have s2:=sv (o:=o) (k:=p+1) (x:=o[p]'(by omega)) lt
  have s3:=sv (o:=o.set (p+1) (o[p]'(by omega))) (k:=p) (x:=(t:Int)) (by simp;omega)
  rw[up_set lt,←up]at s3
  rw[←hpp]at s2
  obtain⟨W,hW⟩:∃W,W=o.set (plc o (t:Int)) (o[p]'(by omega)):=⟨_,rfl⟩
  rw[←hpp]at s3
  rw[←hW]at s2 s3
  have tu:x1U [.lst ((upO o (t:Int)).map D.int)]=some (z2i (upO o (t:Int))):=rfl
  have tb:D.tup [.int v,z2i (upO o (t:Int))]=z1f (v,upO o (t:Int)):=rfl
  obtain⟨c1,c2⟩:=y9q hk hl (b:=(v,upO o (t:Int)))
  have a1:z8o (.int (k:Int)) (.int 1)=some (.int ((k+1:Nat):Int)):=by rw[y1n];congr 2
  have ct:=z7f (bs:=bs) (k:=k) (by omega)
  have cd:=z5p (bs:=bs) (k:=k+1)
  have fl:=z1o (z2K (y0V bs k (v,upO o (t:Int))))
  have rt:D.lst ((y0V bs k (v,upO o (t:Int))).map z1f)=z1P (y0V bs k (v,upO o (t:Int))):=rfl
  have es:=eq_same (x5D (y0V bs k (v,upO o (t:Int)))) (by omega)
  have xk:ixD (z1P (y0V bs k (v,upO o (t:Int)))) (.int (k:Int))=some (z1f (v,upO o (t:Int))):=by
   show atI ((y0V bs k _).map z1f) (k:Int)=_
   refine z1u ?_
   have e:(y0V bs k (v,upO o (t:Int)))[k]? = some (v,upO o (t:Int)):=by
    unfold y0V
    have h3:(bs.take k).length=k:=by simp;omega
    rw[aT,bg (by omega),h3,eV]
    rfl
   rw[ay,e]
   rfl
  have i1:isF "list" (z1P (y0V bs k (v,upO o (t:Int))))=true:=rfl
  have i2:isF "tuple" (z1f (v,upO o (t:Int)))=true:=rfl
  obtain⟨X,hX⟩:∃X,X=y0V bs k (v,upO o (t:Int)):=⟨_,rfl⟩
  obtain⟨Y,hY⟩:∃Y,Y=bs.take k++[(v,upO o (t:Int))]:=⟨_,rfl⟩
  rw[←hX]at c2 fl rt es xk i1 ⊢
  rw[←hY]at c1 c2
  simp_all! only[d0,s1,ip,s2,s3,tu,b0,ix,tb,ct,cd,a1,c1,c2,fl,rt,es,xk,i1,i2,z0d]
theorem y8d{x y z w:Bool}:((z||w)=true->y=true)->(y=true->x=true)->(((z||w) && !y)||(y && !x))=false:=by
 cases x <;> cases y <;> cases z <;> cases w <;> simp
theorem nin_bb{b:Bool}:x1T (.bl b) (.lst [.bl false,.bl true])=some (.bl false):=by cases b <;> rfl
theorem kN{P U C:List Nat}{W:List Int}{t:Nat}:okN 1 (stdD P U C W t):=y3b fun d hd=>by
 rcases ao.mp hd with rfl | hd
 ·exact y5E
 rcases ao.mp hd with rfl | hd
 ·exact y5E
 rcases ao.mp hd with rfl | hd
 ·exact y5E
 ·rw[aq.mp hd];exact y5E
theorem law_true(ns:List Int)(hns:ns.length≤63):y6G [.scr ns]=some (.bl true):=by
 refine z0s rfl ?_
 have ln:z2t [.scr ns]=some (.int (ns.length:Int)):=rfl
 simp! only[g_law,ln]
 refine z0z (I:=fun s=>∃m:Nat,0<m∧m≤6∧s=[some (.sh (.scr ns)),some (.sh (.int (m:Int))),none,none,none,none,none,none,none]) ?_ ?_
 ·cases ns with
  |nil=>
   have d0:decide ((0:Int)<(([]:List Int).length:Int))=false:=rfl
   simp! only[d0,z0d]
   exact⟨_,rfl,1,by omega,by omega,rfl⟩
  |cons c r=>
   have d0:decide ((0:Int)<((c::r).length:Int))=true:=decide_eq_true (by simp)
   obtain⟨a,ea,ha⟩:=z5a (x:=c) (n:=6) (by omega)
   have m6:z2J (.int c) (.int 6)=some (.int (a:Int)):=by rw[z1Q (by omega)];exact congrArg _ (congrArg _ ea)
   have a0:atI (c::r) 0=some c:=z1u (j:=0) rfl
   simp! only[d0,a0,m6,z0d]
   exact⟨_,rfl,1+a,by omega,by omega,rfl⟩
 rintro s ⟨m,h0,hm,rfl⟩
 obtain⟨_,ev,bs,rfl,V,hl⟩:=y7U h0 (show m≤8 by omega) ns hns
 simp! only[ev,ln]
 refine z0z (I:=fun s=>∃(m:Nat) (bs:List (Int×List Int)),0<m∧m≤7∧Vts m bs∧bs.length≤100∧s=[some (.sh (.scr ns)),some (.sh (.int (m:Int))),some (.sh (z1P bs)),none,none,none,none,none,none]) ?_ ?_
 ·cases ns with
  |nil=>
   have d0:decide ((0:Int)<(([]:List Int).length:Int))=false:=rfl
   simp_all! only[d0,z0d]
   exact⟨_,rfl,m,bs,h0,by omega,V,by omega,rfl⟩
  |cons c r=>
   have d0:decide ((0:Int)<((c::r).length:Int))=true:=decide_eq_true (by simp)
   have a0:atI (c::r) 0=some c:=z1u (j:=0) rfl
   have v6:z6Z (.int c) (.int 6)=some (.int (c / 6)):=z5B ⟨by omega,by omega⟩
   have m6:z2J (.int (c / 6)) (.int 6)=some (.int (c / 6 % 6)):=z1Q (by omega)
   have v36:z6Z (.int c) (.int 36)=some (.int (c / 36)):=z5B ⟨by omega,by omega⟩
   obtain⟨_,e7,T,rfl,A⟩:=x3E (c / 36)
   obtain⟨_,eo,bs',rfl,V',hl'⟩:=vof_eq A
   simp_all! only[d0,a0,v6,m6,v36,e7,eo]
   refine x3M (fun _=>?_) fun _=>?_
   ·simp! only[z0d]
    exact⟨_,rfl,7,bs',by omega,by omega,V',hl',rfl⟩
   ·simp! only[z0d]
    exact⟨_,rfl,m,bs,h0,by omega,V,by omega,rfl⟩
 clear V hl h0 hm ev
 rintro s ⟨m,bs,h0,hm,V,hl,rfl⟩
 have li:y0x [z1P bs]=some (bs.map z1f):=rfl
 have tv:D.lst (bs.map z1f)=z1P bs:=rfl
 have te:=y6L (m:=m) (by omega) (bs:=bs) (by omega) V.good V.odd
 have F:=x0v V.good V.odd
 obtain⟨T,hT⟩:∃T,T=tabL m bs:=⟨_,rfl⟩
 rw[←hT]at te F
 obtain⟨P,U,C,W,S⟩:=std_of F h0 (show m≤8 by omega)
 have hb0:0<bs.length:=by
  cases bs with
  |nil=>exact absurd V.odd (by decide)
  |cons b r=>simp
 simp! only[li,tv,te,S.w,z1J (show m≤1000000 by omega)]
 refine z0z (I:=fun s=>∃o5 o6 o7 o8,s=[some (.sh (.scr ns)),some (.sh (.int (m:Int))),some (.sh (z1P bs)),some (.sh (z0G T)),some (.sh (z4H W)),o5,o6,o7,o8]) ?_ ?_
 ·refine z7n (fun k s=>∃o5 o6 o7 o8,s=[some (.sh (.scr ns)),some (.sh (.int (m:Int))),some (.sh (z1P bs)),some (.sh (z0G T)),some (.sh (z4H W)),o5,o6,o7,o8]) ⟨_,_,_,_,rfl⟩ ?_ fun s z=>⟨s,rfl,z⟩
  rintro t ht s ⟨o5,o6,o7,o8,rfl⟩
  have zt:(0:Int)+(t:Int)=(t:Int):=by omega
  have se:=y3z S ht
  have wa:=w_at (W:=W) (t:=t) (by rw[S.len];exact ht)
  have im:=x0G (P:=P) (U:=U) (C:=C) (W:=W) (t:=t)
  have nn:=x0L (kN (P:=P) (U:=U) (C:=C) (W:=W) (t:=t)) (by omega)
  have lv:z2t [z1P bs]=some (.int (bs.length:Int)):=by
   show some (D.int ((bs.map z1f).length:Int))=_
   rw[ah]
  have mu:y9Q (.int ((t:Int)+(bs.length:Int))) (.int 7)=some (.int (((t:Int)+(bs.length:Int))*7)):=x1s (show CMul _ _ from .inr ⟨by decide,by decide⟩)
  obtain⟨k,ek,hk⟩:=z5a (x:=((t:Int)+(bs.length:Int))*7) (n:=bs.length) hb0
  have mk:z2J (.int (((t:Int)+(bs.length:Int))*7)) (.int (bs.length:Int))=some (.int (k:Int)):=by rw[z1Q (by omega),ek]
  obtain⟨⟨v,o⟩,hb⟩:∃b,bs[k]? = some b:=⟨_,ac hk⟩
  have rr:=x0y hb (by omega) (V.good _ (c8 hb)) (show m≤8 by omega) ht
  have q1:=S.cu t ht
  have q2:=S.wu t ht
  have q3:=S.up t ht
  unfold stdD at se im nn
  obtain⟨x,hx⟩:∃x,x=P.contains t:=⟨_,rfl⟩
  obtain⟨y,hy⟩:∃x,x=U.contains t:=⟨_,rfl⟩
  obtain⟨z,hz⟩:∃x,x=C.contains t:=⟨_,rfl⟩
  obtain⟨w,hw⟩:∃x,x=decide (W.getD t 0>0):=⟨_,rfl⟩
  have hw':decide (0<W.getD t 0)=w:=hw.symm
  rw[←hx,←hy,←hz,←hw]at se im nn
  rw[←hz,←hy]at q1
  rw[←hy]at q2 q3
  rw[←hx]at q3
  have al:=y8d (x:=x) (y:=y) (z:=z) (w:=w) (fun h=>by
   rcases Bool.or_eq_true_iff.mp h with h | h
   ·exact q1 h
   ·exact q2 (of_decide_eq_true (hw' ▸ h))) q3
  have c1:∀q,z2c (some [D.bl x,.bl y,.bl z,.bl w]) (z1N (z0H (d2 x1T (z0c 9) (mkL (z0m [dC (.bl false),dC (.bl true)])))) (z0c 9) [some (.scr ns),some (.int (m:Int)),some (z1P bs),some (z0G T),some (z4H W),some (.int (t:Int)),some (.tup [.bl x,.bl y,.bl z,.bl w]),some (.tup [.bl x,.bl y,.bl z,.bl w]),q])=some []:=fun q=>by
   refine(z8C (enc:=bD) (xs:=[x,y,z,w]) (fun _=>false) bD (by simp) (fun b _=>?_) fun b _ h=>nomatch h).trans (by simp)
   simp! only[bD,nin_bb]
  have c2:∀q,z2c (some [D.bl x,.bl y,.bl z,.bl w]) (z1N (z2W (z0q (dIs "bool" (z0c 9)))) (z0c 9) [some (.scr ns),some (.int (m:Int)),some (z1P bs),some (z0G T),some (z4H W),some (.int (t:Int)),some (.tup [.bl x,.bl y,.bl z,.bl w]),some (.tup [.bl x,.bl y,.bl z,.bl w]),q])=some []:=fun q=>by
   refine(z8C (enc:=bD) (xs:=[x,y,z,w]) (fun _=>false) bD (by simp) (fun b _=>?_) fun b _ h=>nomatch h).trans (by simp)
   simp_all! only[bD]
  have l0:z2t [.lst []]=some (.int 0):=rfl
  have g0:gtI (.int 0) (.int 0)=some (.bl false):=rfl
  have i0:atI [D.bl x,.bl y,.bl z,.bl w] 0=some (.bl x):=rfl
  have i1:atI [D.bl x,.bl y,.bl z,.bl w] 1=some (.bl y):=rfl
  have i2:atI [D.bl x,.bl y,.bl z,.bl w] 2=some (.bl z):=rfl
  have i3:atI [D.bl x,.bl y,.bl z,.bl w] 3=some (.bl w):=rfl
  simp_all! only[zt,se,S.p,S.u,S.c,x0e,wa,←hx,←hy,←hz,hw',im,nn,y3C,c1,c2,l0,g0,i0,i1,i2,i3,al,lv,mu,mk,rr,z0d]
  exact⟨_,_,_,_,rfl⟩
 ·rintro s ⟨o5,o6,o7,o8,rfl⟩
  simp! only[z0d]
end Prg
open PySem PySem.W PyProof.Rows
set_option maxRecDepth 100000 in
set_option maxHeartbeats 0 in
theorem PySem.Challenge.cw_askorder_k85_where_a_thing_stands_holds : PySem.Challenge.rw_askorder_k85_where_a_thing_stands.Holds := by
 w_on;o_law;k_head;(case hw=>w_witness2)
 k_fill
 refine Prg.walk (l:=PySem.Challenge.rw_askorder_k85_where_a_thing_stands) rfl rfl Prg.law_true (fun w h Y=>PySem.W.kIn_of Y) ?F
 case F=>
  intro w mg fa h KX G hmg
  refine' Prg.all_mk KX G hmg ?jU ?jA ?jB ?iR ?iu ?iS ?g6 ?jC ?iT ?iw ?jb ?jn ?jD ?jE ?g7 ?gS ?jo ?iy ?jM ?g8 ?jc ?jd ?gy ?jN ?jF ?jV ?iz ?gT ?jf ?jG ?g9 ?jW ?hJ ?jp ?jH ?jO ?iV ?jq ?iA ?jg ?iW ?iB ?gF ?gG ?hU ?gU ?iC ?iD ?iE ?gO ?iX ?gl ?j5 ?j6 ?c_law ?j7 ?h9 ?jh ?x_BadBallot ?iY ?iF ?jX ?x_NothingLeft ?hV ?f7 ?e_BadBallot_AskError ?e_NothingLeft_AskError ?gX ?ge ?ia ?xb_NothingLeft ?gr ?t_BadBallot_NothingLeft ?t_NothingLeft_NothingLeft ?gz ?f8 ?t_NothingLeft_ValueError ?gH ?gg ?t_NothingLeft_BadBallot ?j8 ?iZ ?jP ?j9 ?ka ?jI ?kb ?iG ?jY ?kc ?kf ?kg ?kh ?ki ?jQ ?jZ ?iH
  (case j5 | j6 | c_law | j7 | h9 | x_BadBallot | iF | x_NothingLeft | j8 | iZ | jP | j9 | ka | jI | kb | iG | jY | kc | kf | kg | kh | ki | jQ | jZ | iH=>k_is)
  (case jU | jA | jB | iR | iu | iS | g6 | jC | iT | iw | jb | jn | jD | jE | g7 | gS | jo | iy | jM | g8 | jc | jd | gy | jN | jF | jV | iz | gT | jf | jG | g9 | jW | hJ | jp | jH | jO | iV | jq | iA | jg | iW | iB | gF | gG | hU | gU | iC | iD | iE | gO | iX | gl=>exact⟨_,_,by k_is,L2.fun_mk (by k_is) (by k_is) (by k_is)⟩)
  (case jh | iY | jX | hV=>first | k_exc | kernel_rfl!)
  (case f7 | e_BadBallot_AskError | e_NothingLeft_AskError | gX | ge | ia | xb_NothingLeft | gr | t_BadBallot_NothingLeft | t_NothingLeft_NothingLeft | gz | f8 | t_NothingLeft_ValueError | gH | gg | t_NothingLeft_BadBallot=>first | kts_exm | k_is | kernel_rfl!)
