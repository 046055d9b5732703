import PyProof.Rows.All
import Wide.All
import OpenK.AllK
import Wide.FinOn
import Lean
import PyProof.EqAt
import PyProof.EqKinds
import PyProof.TupleCall
import PySem.Challenge.RW_askorder_k86_whole_raising_keeps
set_option Elab.async false
set_option linter.all false
set_option maxRecDepth 100000
open PySem.W renaming Frag → aa, nsIn → aE, mg_none_of → aN, findIn → aV, kia_one → bi, fnOf → bu, keepIn → bE, mroIn → bG, specialIn → bQ, kitOne → b9, takesIn → cw, excIn → cJ, codeIn → cT, InstAt → cU, methodObj → cZ, kitx_list → c3, plainGet → c6, instObj → df, findObj → dg, OpenLaw → dh, lookIn → dA, mg_of → dL, clsIn → dM, cellsFrom_some → dW, looks_findIn → d3, callWith_K → er, plainOver → eE, hasDictIn → eF
open List renaming getElem?_eq_getElem → ac, range → ad, mem_cons_of_mem → ae, mem_cons_self → af, mem_filter → ag, length_map → ah, mem_range → ai, replicate → am, mem_cons → ao, mem_singleton → aq, mem_append → ar, size_toArray → au, nodup_cons → aw, map_cons → ay, getElem?_map → aB, length_append → aC, map_append → aD, getD_eq_getElem?_getD → aH, all_eq_true → aJ, map_map → aK, append_nil → aL, drop_eq_getElem_cons → aM, mem_map → aO, getElem?_eq_some_iff → aP, mem_append_right → aQ, append_assoc → aR, length_range → aS, length_eq_zero_iff → aT, contains_iff_mem → aU, length_filter_le → aW, length_cons → aX, getElem?_append_left → aY, getD → aZ, pairwise_cons → ba, nodup_nil → bc, length_eraseIdx → be, filter_cons → bf, replicate_succ → bg, map_congr_left → bh, not_mem_nil → bj, getElem?_set_ne → bn, getElem?_append_right → bp, filter_eq_self → bq, ext_getElem → bv, mem_of_mem_eraseIdx → bw, mem_of_getElem? → bx, flatten_cons → bA, filter_congr → bB, sum_cons → bF, find?_cons → bH, getElem_mem → bL, any_eq_true → bM, filter_eq_nil_iff → bN, filter_append → bP, sum_append → bR, take_append_drop → bS, nodup_append → bT, any_eq_false → bU, reverse_reverse → bW, mem_append_left → bX, getElem_map → bY, length_pos_iff → bZ, filterMap_cons → b6, range_succ → b8, range' → ca, getElem?_replicate → cb, filter_cons_of_pos → cc, filter_cons_of_neg → ce, reverse_cons → cg, range_succ_eq_map → ci, getElem?_set → cj, eraseIdx_sublist → cq, lookup_cons → cu, drop_length → cv, nil_append → cB, getElem?_range → cC, map_nil → cD, any_map → cE, contains_eq_any_beq → cO, any_cons → cP, length_take → cQ, take_of_length_le → cS, length_replicate → cV, mem_iff_getElem → cY, map_take → c4, map_drop → c5, findIdx_lt_length_of_exists → de, range'_succ → dm, mem_flatten → dq, length_drop → dz, of_mem_zip → dD, mem_zipIdx_iff_getElem? → dE, length_set → dF, length_nil → dG, idxOf_lt_length_of_mem → dN, perm_ext_iff_of_nodup → dQ, nodup_iff_pairwise_ne → dR, drop_zero → dS, sublist_append_right → dY, getElem?_cons_succ → d4, eraseIdx_cons_succ → d5, getElem?_set_self → d6, drop_of_length_le → d8, drop_eq_nil_of_le → d9, all_map → ef, length_singleton → eC, getElem?_eq_none → eD, range_eq_range' → eI, perm_cons_erase → eJ, mem_of_mem_drop → eK, take_succ_cons → eM, set_cons_zero → eP, set_cons_succ → eQ, mem_filterMap → eS, foldl → eT, find?_eq_none → eU, append_of_mem → eV
open Nat renaming le_refl → aj, le_trans → aF, ne_of_lt → aG, lt_of_lt_of_le → aI, zero_le → bJ, lt_irrefl → bK, le_of_succ_le → bV, ne_of_gt → cF, le_of_lt → cG, mod_two_eq_zero_or_one → cL, lt_succ_of_lt → cN, le_add_right → cR, le_of_ble_eq_true → cX, lt_of_le_of_lt → c7, add_sub_cancel → c8, le_succ_of_le → di, le_succ → dB, gcd → dP, not_lt → dX, sub_zero → eu, pow_le_pow_right → eL
open Bool renaming false_ne_true → ak, and_eq_true_iff → ax, and_eq_true → aA, not_eq_true' → cM, eq_iff_iff → dJ, false_and → dU, true_and → dZ, false_eq_true → eW
open Option renaming bind_some → av, isSome_iff_exists → bI, map_some → b7, isSome_map → cK, bind_none → dc, isSome_some → eG, getD_some → eN, getD_none → eO
open Int renaming mul_nonneg → br, le_refl → cf, toNat_natCast → ck, mul_le_mul_of_nonneg_right → cz, mul_pos → cA, mul_comm → cH, emod_nonneg → cW, emod_lt_of_pos → c9, zero_mul → dl, neg_mul → dH, mul_le_mul_of_nonneg_left → dI, mul_eq_zero → dO, pos_of_mul_pos_left → eh
open Array renaming length_toList → bC, getElem?_eq_some_iff → cI
noncomputable abbrev PySem.W.Fast.tw16738196597893423262:=PySem.Challenge.pw_askorder_k86_whole_raising_keeps
theorem PySem.W.Fast.te16738196597893423262:PySem.Challenge.pw_askorder_k86_whole_raising_keeps=PySem.W.Fast.tw16738196597893423262:=rfl
open PySem renaming Program → dw, World → eX, FuncData → eY, behindInMarks → eZ, assignEach → e7, cellsFrom → e8, backTo → e9, compareOp → fb, attributeBase → ff, Keyword → fg, bootBuiltins → fo, binaryOp → fq, IsPair → ft, Scope → fu, cLine → fw
namespace PySem.W.Fast
def tw1180944586504190977:=0
def tw11784177611008095887:=0
def tw12973694483936298677:=0
def tw3484253944479573000:=0
def tw4592733744717197001:=0
def tw1559808598940692175:=0
def tw16993985616220750958:=0
def tw16464035011010889729:=0
def tw2375788669620592953:=0
def tw14716371264659590679:=0
def tw7812171780571277066:=0
def tw4142570070379084720:=0
def tw1709144622953569494:=0
def tw11943166518312978873:=0
def tw17678074941280780604:=0
def tw9257559477698161344:=0
def tw7046996874400573890:=0
def tw6332461031282458882:=0
def tw2173031972806842922:=0
def tw12900691381052245726:=0
def tw1497820683565378978:=0
def tw3740154297170968435:=0
def tw4814463612126237782:=0
def tw15712734450514652456:=0
def tw7023243349415319061:=0
def tw15201538436742048607:=0
def tw17283522571644904510:=0
def tw1271165166827553672:=0
def tw10766758938808907540:=0
def tw10021264218848697122:=0
def tw11875065754618165852:=0
def tw2896899168928194728:=0
def tw16838097555146313613:=0
def tw854713488394490672:=0
def tw3196783683724339663:=0
def tw1318148875602472163:=0
def tw6903644717258773791:=0
def tw1029388714489671239:=0
def tw14532179700563304491:=0
def tw7150614324684837762:=0
def tw2379221503517828085:=0
def tw15392763113867398882:=0
def tw16215596951111505005:=0
def tw4038677805689370605:=0
def tw5424008440818009673:=0
def tw18404905679298895548:=0
def tw7843183944669497843:=0
def tw503198160535030618:=0
def tw6157372836440822767:=0
def tw326201586429989073:=0
def tw614696734793771052:=0
def tw15048655895793356136:=0
def tw15890040176650331849:=0
end PySem.W.Fast
namespace L2
open PySem PySem.Spec PyProof.Rows
abbrev Key:=Sum Int Str
def y2O:Key->Value->Bool
 |.inl k,v=>Value.isInt k v
 |.inr x,v=>Value.isStrOf x v
def keyH(w:eX):Key->Int
 |.inl k=>hashInt k
 |.inr x=>hashStr w x
theorem z0L:∀{k:Key} {v:Value},y2O k v=true->(∃i t,k=Sum.inl i∧v=Value.int i t)∨(∃x t,k=Sum.inr x∧v=Value.str x t)
 |.inl i,v,h=>by
  obtain⟨t,e⟩:=Value.isInt_shape (k:=i) (v:=v) h
  exact .inl ⟨i,t,rfl,e⟩
 |.inr x,v,h=>by
  obtain⟨t,e⟩:=Value.isStrOf_shape (x:=x) (v:=v) h
  exact .inr ⟨x,t,rfl,e⟩
theorem y8b(i:Int)(t:Tok):y2O (.inl i) (.int i t)=true:=by simp[y2O,Value.isInt]
theorem y9N(x:Str)(t:Tok):y2O (.inr x) (.str x t)=true:=by simp[y2O,Value.isStrOf]
theorem key_ll(a b:Int):decide ((Sum.inl a:Key)=Sum.inl b)=(a==b):=by
 by_cases e:a=b
 ·subst e;simp
 ·have h:¬ (Sum.inl a:Key)=Sum.inl b:=fun q=>e (Sum.inl.inj q)
  rw[decide_eq_false h]
  exact(beq_eq_false_iff_ne.mpr e).symm
theorem key_rr(a b:Str):decide ((Sum.inr a:Key)=Sum.inr b)=decide (a=b):=by
 by_cases e:a=b
 ·subst e;simp
 ·have h:¬ (Sum.inr a:Key)=Sum.inr b:=fun q=>e (Sum.inr.inj q)
  rw[decide_eq_false h,decide_eq_false e]
theorem key_lr(a:Int)(b:Str):decide ((Sum.inl a:Key)=Sum.inr b)=false:=decide_eq_false (fun q=>nomatch q)
theorem key_rl(a:Str)(b:Int):decide ((Sum.inr a:Key)=Sum.inl b)=false:=decide_eq_false (fun q=>nomatch q)
def z1b(prog:dw)(w:eX):PySem.KeyKind prog w Key where
 is:=y2O
 hash:=keyH w
 inj:=fun v a b ha hb=>by
  rcases z0L ha with⟨i,t,rfl,rfl⟩ | ⟨x,t,rfl,rfl⟩
  ·rcases z0L hb with⟨j,u,rfl,e⟩ | ⟨y,u,rfl,e⟩
   ·injection e with e1 _;rw[e1]
   ·exact nomatch e
  ·rcases z0L hb with⟨j,u,rfl,e⟩ | ⟨y,u,rfl,e⟩
   ·exact nomatch e
   ·injection e with e1 _;rw[e1]
 byValue:=fun k v h=>by
  rcases z0L h with⟨i,t,rfl,rfl⟩ | ⟨x,t,rfl,rfl⟩ <;> rfl
 pyHash:=fun hv h=>by
  rcases z0L hv with⟨i,t,rfl,rfl⟩ | ⟨x,t,rfl,rfl⟩
  ·exact wpAny_pyHash_int h
  ·exact wpAny_pyHash_str h
 eqBool:=fun hu hv h=>by
  rcases z0L hu with⟨i,t,rfl,rfl⟩ | ⟨x,t,rfl,rfl⟩
  ·rcases z0L hv with⟨j,u,rfl,rfl⟩ | ⟨y,u,rfl,rfl⟩
   ·rw[key_ll]at h;exact wpAny_eqBool_int h
   ·rw[key_lr]at h;exact SeqAt.EqAt.int_str i t y u _ _ _ _ h
  ·rcases z0L hv with⟨j,u,rfl,rfl⟩ | ⟨y,u,rfl,rfl⟩
   ·rw[key_rl]at h;exact SeqAt.EqAt.str_int x t j u _ _ _ _ h
   ·rw[key_rr]at h;exact wpAny_eqBool_str h
 «strs»:=fun k x t v h=>by
  rcases z0L h with⟨i,u,rfl,e⟩ | ⟨y,u,rfl,e⟩
  ·exact nomatch e
  ·injection e with e1 _
   subst e1
   cases v <;> rfl
theorem y2x(prog:dw)(w:eX)(i:Int)(t:Tok):(z1b prog w).is (.inl i) (.int i t)=true:=y8b i t
theorem y2F(prog:dw)(w:eX)(x:Str)(t:Tok):(z1b prog w).is (.inr x) (.str x t)=true:=y9N x t
inductive V where
 |non | bl (b:Bool) | int (i:Int) | str (x:Str) | byt (b:Array UInt8) | flt (b:UInt64) | ref (a:Addr) | ty (n:String)
 deriving DecidableEq
def RelV:V->Value->Prop
 |.non,u=>u=Value.none
 |.bl b,u=>u=Value.bool b
 |.int i,u=>∃t,u=Value.int i t
 |.str x,u=>∃t,u=Value.str x t
 |.byt b,u=>∃t,u=Value.bytes b t
 |.flt b,u=>∃t,u=Value.float b t
 |.ref a,u=>u=Value.ref a
 |.ty n,u=>u=Value.type n
abbrev Vals:List V->List Value->Prop:=Paired RelV
theorem Vals.length{xs:List V}{us:List Value}(r:Vals xs us):xs.length=us.length:=Paired.length r
theorem Vals.get:∀{xs:List V} {us:List Value} {i:Nat} {x:V},Vals xs us->xs[i]? = some x->∃u,us[i]? = some u∧RelV x u
 |_,_,_,_,.nil,e=>by simp at e
 |_,_,0,_,.cons r _,e=>by simp at e;subst e;exact⟨_,rfl,r⟩
 |_,_,i+1,x,.cons _ t,e=>by
  obtain⟨u,h1,h2⟩:=Vals.get (i:=i) (x:=x) t (by simpa using e)
  exact⟨u,by simpa using h1,h2⟩
theorem Vals.set{x:V}{u:Value}(r:RelV x u):∀{xs:List V} {us:List Value} (i:Nat),Vals xs us->Vals (xs.set i x) (us.set i u)
 |_,_,_,.nil=>.nil
 |_,_,0,.cons _ t=>.cons r t
 |_,_,i+1,.cons q t=>.cons q (Vals.set r i t)
theorem Vals.append:∀{xs ys:List V} {us ws:List Value},Vals xs us->Vals ys ws->Vals (xs++ys) (us++ws)
 |_,_,_,_,.nil,s=>s
 |_,_,_,_,.cons r t,s=>.cons r (Vals.append t s)
theorem Vals.take:∀{xs:List V} {us:List Value} (n:Nat),Vals xs us->Vals (xs.take n) (us.take n)
 |_,_,0,_=>.nil
 |_,_,_+1,.nil=>.nil
 |_,_,n+1,.cons r t=>.cons r (Vals.take n t)
theorem Vals.drop:∀{xs:List V} {us:List Value} (n:Nat),Vals xs us->Vals (xs.drop n) (us.drop n)
 |_,_,0,r=>r
 |_,_,_+1,.nil=>.nil
 |_,_,n+1,.cons _ t=>Vals.drop n t
def RelO:Option V->Option Value->Prop
 |some v,some u=>RelV v u
 |none,none=>True
 |_,_=>False
def KV{κ:Type}:List (κ×V)->List (κ×Value)->Prop:=Paired fun(p:κ×V) (q:κ×Value)=>p.1=q.1∧RelV p.2 q.2
def kV:Key->V
 |.inl i=>.int i
 |.inr x=>.str x
inductive HO where
 |lst (xs:List V)
 |tup (xs:List V)
 |dK (kvs:List (Key×V)) | dT (kvs:List (List Key×V))
 |set (S:Int->Bool) (n:Nat)
 |ins (C dx:Addr) (fs:List (Str×V))
 |own (x:Addr)
 |xd (fs:List (Str×V))
 |met (f x:Addr)
 |rng (lo hi:Int)
 |frz (o:Obj) (u:HO)
 |tbl (ps:Array Value)
 |ext (φ:Heap->Prop)
abbrev Hp:=Addr->Option HO
def upd(H:Hp)(a:Addr)(o:HO):Hp:=fun b=>if b=a then some o else H b
theorem z0o{H:Hp}{a:Addr}{o:HO}:upd H a o a=some o:=by unfold upd;rw[if_pos rfl]
theorem z0t{H:Hp}{a b:Addr}{o:HO}(h:b≠a):upd H a o b=H b:=by unfold upd;rw[if_neg h]
theorem ne_of{H:Hp}{a b:Addr}{o u:HO}(h:H a=some o)(h':H b=some u)(d:o≠u):a≠b:=by
 intro e;subst e;rw[h]at h';exact d (Option.some.inj h')
theorem z1e{H:Hp}{a b:Addr}{o:HO}(h:H a=some o)(h':H b=none):a≠b:=by
 intro e;subst e;rw[h]at h';cases h'
section
variable(P:dw)(w:eX)
def TupN(h:Heap)(a:Addr)(items:Array Value):Prop:=∃o,h.get? a=some o∧(o.cls = .type "tuple" ∧ o.dict=none)∧∃n,o.data = .seq items n
theorem TupN.is{h:Heap}{a:Addr}{items:Array Value}(x:TupN h a items):IsTup h a items:=let⟨o,e,c,n⟩:=x;⟨o,e,c.1,n⟩
theorem TupN.lt{h:Heap}{a:Addr}{items:Array Value}(x:TupN h a items):a<h.objs.size:=x.is.lt
theorem TupN.new(h:Heap)(items:Array Value):TupN (h.push { cls:=.type "tuple",data:=.seq items }) h.objs.size items:=⟨_,Heap.get?_push_size _ rfl,⟨rfl,rfl⟩,_,rfl⟩
def ObjOk(H:Hp)(h:Heap)(a:Addr):HO->Prop
 |.lst xs=>xs.length≤sizeLine∧∃(its:List Value) (n:Nat),Vals xs its∧h.get? a=some { cls:=.type "list",data:=.seq its.toArray n }
 |.tup xs=>xs.length≤sizeLine∧∃its:List Value,Vals xs its∧TupN h a its.toArray
 |.dK kvs=>kvs.length≤sizeLine∧(a==sysModules)=false∧∃vs,KV kvs vs∧h.DictOf (z1b P w) a vs
 |.dT kvs=>kvs.length≤sizeLine∧(a==sysModules)=false∧∃xs:List (List Key×Addr×Value),
   Paired (fun(p:List Key×V) (q:List Key×Addr×Value)=>p.1=q.1∧H q.2.1=some (.tup (p.1.map kV))∧RelV p.2 q.2.2) kvs xs ∧
   ∃o es ep,h.get? a=some o∧o.ExactDict∧o.data = .dict es ep∧es.toList=xs.map (entryOfKey (tupleKind (z1b P w)))∧(xs.map (·.1)).Nodup
 |.set S n=>h.SetOf (intKind P w) a S n
 |.ins C dx fs=>H dx=some (.own a)∧fs.length≤1000∧dx≠a∧h.get? a=some (df C dx) ∧
   ∃mA,h.Ns1 dx mA∧(∀f,RelO (fs.lookup f) (mA f))∧PySem.Within mA (fs.map (·.1))
 |.own _=>∃o,h.get? a=some o
 |.xd fs=>∃mA,h.Ns1 a mA∧∀f,RelO (fs.lookup f) (mA f)
 |.rng lo hi=>∃t u v,h.get? a=some { cls:=.type "range",data:=.fields #[.int lo t,.int hi u,.int 1 v] }
 |.frz o u=>h.get? a=some o∧ObjOk H h a u
 |.tbl ps=>h.get? a=some { cls:=.none,data:=.fields ps }
 |.met f x=>h.get? a=some (cZ (.ref f) (.ref x))
 |.ext φ=>φ h∧(∃o,h.get? a=some o)∧∀h1 h2:Heap,φ h1->(∀o,h1.get? a=some o->h2.get? a=some o)->φ h2
def HOk(H:Hp)(h:Heap):Prop:=∀a o,H a=some o->ObjOk P w H h a o
end
section
variable{P:dw}{w:eX}{H H':Hp}{h h':Heap}{a:Addr}{o:HO}
theorem ObjOk.lt(x:ObjOk P w H h a o):a<h.objs.size:=by
 cases o with
 |lst xs=>obtain⟨_,_,_,_,e⟩:=x;exact Heap.lt_size e
 |tup xs=>obtain⟨_,_,_,p⟩:=x;exact p.lt
 |dK kvs=>obtain⟨_,_,_,_,o,_,_,e,_⟩:=x;exact Heap.lt_size e
 |dT kvs=>obtain⟨_,_,_,_,o,_,_,e,_⟩:=x;exact Heap.lt_size e
 |set S n=>obtain⟨o,_,_,_,e,_⟩:=x;exact Heap.lt_size e
 |ins C dx fs=>obtain⟨_,_,_,e,_⟩:=x;exact Heap.lt_size e
 |own y=>obtain⟨_,e⟩:=x;exact Heap.lt_size e
 |xd fs=>obtain⟨_,⟨_,_,_,e,_⟩,_⟩:=x;exact Heap.lt_size e
 |rng lo hi=>obtain⟨_,_,_,e⟩:=x;exact Heap.lt_size e
 |frz ob u=>obtain⟨e,_⟩:=x;exact Heap.lt_size e
 |tbl ps=>exact Heap.lt_size (show h.get? a=some _ from x)
 |met f y=>exact Heap.lt_size (show h.get? a=some _ from x)
 |ext φ=>obtain⟨_,⟨_,e⟩,_⟩:=x;exact Heap.lt_size e
theorem Paired.mapP{α β:Type}{F G:α->β->Prop}:∀{l₁:List α} {l₂:List β},Paired F l₁ l₂->(∀a b,F a b->G a b)->Paired G l₁ l₂
 |_,_,.nil,_=>.nil
 |_,_,.cons r t,f=>.cons (f _ _ r) (Paired.mapP t f)
theorem ObjOk.stay(x:ObjOk P w H h a o)(k:∀b u,(b=a∨H b=some (.own a))->h.get? b=some u->h'.get? b=some u)
  (ho:∀b,H b=some (.own a)->H' b=some (.own a)) (ht:∀b xs,H b=some (.tup xs)->H' b=some (.tup xs)):ObjOk P w H' h' a o:=by
 induction o with
 |lst xs=>obtain⟨z,its,n,r,e⟩:=x;exact⟨z,its,n,r,k _ _ (.inl rfl) e⟩
 |tup xs=>obtain⟨z,its,r,ob,e,c⟩:=x;exact⟨z,its,r,ob,k _ _ (.inl rfl) e,c⟩
 |dK kvs=>obtain⟨z,y,vs,r,ob,es,ep,e,c⟩:=x;exact⟨z,y,vs,r,ob,es,ep,k _ _ (.inl rfl) e,c⟩
 |dT kvs=>
  obtain⟨z,y,xs,r,ob,es,ep,e,c⟩:=x
  exact⟨z,y,xs,Paired.mapP r fun p q z=>⟨z.1,ht _ _ z.2.1,z.2.2⟩,ob,es,ep,k _ _ (.inl rfl) e,c⟩
 |set S n=>obtain⟨ob,es,ep,t,e,c⟩:=x;exact⟨ob,es,ep,t,k _ _ (.inl rfl) e,c⟩
 |ins C dx fs=>
  obtain⟨d,z,ne,e,mA,⟨od,es,ep,e2,c⟩,r⟩:=x
  exact⟨ho _ d,z,ne,k _ _ (.inl rfl) e,mA,⟨od,es,ep,k _ _ (.inr d) e2,c⟩,r⟩
 |own y=>obtain⟨ob,e⟩:=x;exact⟨ob,k _ _ (.inl rfl) e⟩
 |xd fs=>obtain⟨mA,⟨od,es,ep,e,c⟩,r⟩:=x;exact⟨mA,⟨od,es,ep,k _ _ (.inl rfl) e,c⟩,r⟩
 |rng lo hi=>obtain⟨t,u,v,e⟩:=x;exact⟨t,u,v,k _ _ (.inl rfl) e⟩
 |frz ob u ih=>obtain⟨e,q⟩:=x;exact⟨k _ _ (.inl rfl) e,ih q⟩
 |tbl ps=>
  have e:h.get? a=some { cls:=.none,data:=.fields ps }:=x
  show h'.get? a=some { cls:=.none,data:=.fields ps }
  exact k a _ (.inl rfl) e
 |met f y=>
  have e:h.get? a=some (cZ (.ref f) (.ref y)):=x
  show h'.get? a=some (cZ (.ref f) (.ref y))
  exact k a _ (.inl rfl) e
 |ext φ=>obtain⟨p,⟨o,e⟩,st⟩:=x;exact⟨st _ _ p fun o q=>k _ _ (.inl rfl) q,⟨o,k _ _ (.inl rfl) e⟩,st⟩
theorem HOk.lt(x:HOk P w H h)(e:H a=some o):a<h.objs.size:=(x a o e).lt
theorem HOk.fresh(x:HOk P w H h)(e:h.objs.size≤a):H a=none:=by
 cases q:H a with
 |none=>rfl
 |some u=>exact absurd (aI (x.lt q) e) (bK _)
theorem HOk.kept(x:HOk P w H h)(k:∀b u,h.get? b=some u->h'.get? b=some u):HOk P w H h':=fun a o e=>
 (x a o e).stay (fun b u _ q=>k b u q) (fun _ q=>q) fun _ _ q=>q
theorem HOk.laid(x:HOk P w H h)(k:∀b u,h.get? b=some u->h'.get? b=some u)(hp:h.objs.size≤a)(new:ObjOk P w (upd H a o) h' a o):HOk P w (upd H a o) h':=fun b u e=>by
 have hn:=x.fresh hp
 by_cases hb:b=a
 ·subst hb;rw[z0o]at e;cases e;exact new
 ·rw[z0t hb]at e
  exact(x b u e).stay (fun c v _ q=>k c v q) (fun c q=>by rw[z0t (z1e q hn)];exact q) fun c xs q=>by rw[z0t (z1e q hn)];exact q
end
def Rd(H:Hp)(a:Addr)(u:HO):Prop:=H a=some u∨∃o,H a=some (.frz o u)
theorem Rd.ok{P:dw}{w:eX}{H:Hp}{h:Heap}{a:Addr}{u:HO}(r:Rd H a u)(x:HOk P w H h):ObjOk P w H h a u:=by
 rcases r with r | ⟨o,r⟩
 ·exact x a u r
 ·obtain⟨_,q⟩:=x a _ r
  exact q
def Mut:Option HO->Prop
 |some (.lst _)=>True
 |some (.dK _)=>True
 |some (.dT _)=>True
 |some (.set _ _)=>True
 |some (.ins _ _ _)=>True
 |some (.ext _)=>True
 |_=>False
section
variable{P:dw}{w:eX}{H:Hp}{h h':Heap}{x e:Addr}{o':HO}
theorem HOk.write(ok:HOk P w H h)(mu:Mut (H x))(he:e=x∨H e=some (.own x))(k:∀b u,b≠e->h.get? b=some u->h'.get? b=some u)(heo:∃u,h'.get? e=some u)
  (new:ObjOk P w (upd H x o') h' x o'):HOk P w (upd H x o') h':=fun b u q=>by
 have nown:∀c y,H c=some (.own y)->c≠x:=fun c y r z=>by subst z;rw[r]at mu;exact mu
 have ntup:∀c xs,H c=some (.tup xs)->c≠x:=fun c xs r z=>by subst z;rw[r]at mu;exact mu
 by_cases hb:b=x
 ·subst hb;rw[z0o]at q;cases q;exact new
 ·rw[z0t hb]at q
  by_cases hbe:b=e
  ·have q':H b=some (.own x):=by
    rcases he with z | z
    ·exact absurd (hbe.trans z) hb
    ·rw[hbe];exact z
   rw[q]at q';cases q'
   obtain⟨v,hv⟩:=heo
   exact⟨v,by rw[hbe];exact hv⟩
  ·refine(ok b u q).stay (fun c v hc r=>k c v ?_ r) (fun c r=>by rw[z0t (nown c b r)];exact r) fun c xs r=>by rw[z0t (ntup c xs r)];exact r
   rcases hc with rfl | hc
   ·exact hbe
   ·rintro rfl
    rcases he with z | z
    ·exact nown c b hc z
    ·rw[hc]at z;cases z;exact hb rfl
end
structure Un(fs ex:List Addr)(H H':Hp)(h h':Heap):Prop where
 keep:∀b o,h.get? b=some o->H b=none->b∉fs->b∉ex->h'.get? b=some o
 slot:∀b o,h.get? b=some o->H b=none->b∈fs->b∉ex->∃sl,h'.get? b=some { o with slots:=sl }
 free:∀b o,h.get? b=some o->H b=none->b∉ex->H' b=none
 there:∀b o,h.get? b=some o->b∉ex->∃o',h'.get? b=some o'
 tups:∀b xs,H b=some (.tup xs)->H' b=some (.tup xs)
 frzs:∀b o u,H b=some (.frz o u)->H' b=some (.frz o u)
 tbls:∀b ps,H b=some (.tbl ps)->∃more,H' b=some (.tbl (ps++more))
section
variable{fs ex:List Addr}{H H1:Hp}{h h1 h':Heap}{a x e:Addr}{o:HO}
theorem Un.any(u:Un fs ex H H1 h h1){b:Addr}{ob:Obj}(q:h.get? b=some ob)(n:H b=none)(hx:b∉ex):∃sl,h1.get? b=some { ob with slots:=sl }:=by
 by_cases hb:b∈fs
 ·exact u.slot b ob q n hb hx
 ·exact⟨ob.slots,u.keep b ob q n hb hx⟩
theorem Un.kept(k:∀b u,h.get? b=some u->h'.get? b=some u):Un fs ex H H h h':=
 ⟨fun b ob q _ _ _=>k b ob q,fun b ob q _ _ _=>⟨ob.slots,k b ob q⟩,fun _ _ _ n _=>n,fun b ob q _=>⟨ob,k b ob q⟩,fun _ _ q=>q,fun _ _ _ q=>q,fun _ ps q=>⟨#[],by rw[q];simp⟩⟩
theorem Un.refl:Un fs ex H H h h:=Un.kept fun _ _ q=>q
theorem Un.laid(k:∀b u,h.get? b=some u->h'.get? b=some u)(hp:h.objs.size≤a)(hn:H a=none):Un fs ex H (upd H a o) h h' where
 keep:=fun b u q _ _ _=>k b u q
 slot:=fun b u q _ _ _=>⟨u.slots,k b u q⟩
 free:=fun b u q n _=>by rw[z0t (aG (aI (Heap.lt_size q) hp))];exact n
 there:=fun b u q _=>⟨u,k b u q⟩
 tups:=fun b xs q=>by rw[z0t (z1e q hn)];exact q
 frzs:=fun b u xs q=>by rw[z0t (z1e q hn)];exact q
 tbls:=fun b ps q=>⟨#[],by rw[z0t (z1e q hn),q];simp⟩
theorem Un.write(mu:Mut (H x))(he:e=x∨H e=some (.own x))(k:∀b u,b≠e->h.get? b=some u->h'.get? b=some u)(heo:∃u,h'.get? e=some u):Un fs ex H (upd H x o) h h':=by
 have hx:∀b,H b=none->b≠x:=fun b n z=>by subst z;rw[n]at mu;exact mu
 have hb:∀b,H b=none->b≠e:=fun b n z=>by
  subst z
  rcases he with r | r
  ·exact hx b n r
  ·rw[n]at r;cases r
 have hm:∀b u,H b=some u->¬ Mut (some u)->b≠x:=fun b u q nm z=>by subst z;rw[q]at mu;exact nm mu
 refine⟨fun b u q n _ _=>k b u (hb b n) q,fun b u q n _ _=>⟨u.slots,k b u (hb b n) q⟩,fun b u q n _=>by rw[z0t (hx b n)];exact n,fun b u q _=>?_,
  fun b xs q=>by rw[z0t (hm b _ q fun z=>z)];exact q,fun b u xs q=>by rw[z0t (hm b _ q fun z=>z)];exact q,fun b ps q=>⟨#[],by rw[z0t (hm b _ q fun z=>z),q];simp⟩⟩
 by_cases hbe:b=e
 ·subst hbe;exact heo
 ·exact⟨u,k b u hbe q⟩
end
def trk(h:Heap)(H:Hp):List Addr:=(ad h.objs.size).filter fun a=>(H a).isSome
def x2f(h:Heap)(H:Hp):Heap:=PySem.W.hideAll h (trk h H)
theorem y9u(h:Heap)(H:Hp):(x2f h H).objs.size=h.objs.size:=PySem.W.hideAll_size _ _
theorem x1d{h:Heap}{H:Hp}{b:Addr}{o:Obj}(e:h.get? b=some o)(n:H b=none):(x2f h H).get? b=some o:=
 PySem.W.hideAll_get _ e fun hm=>by
  have q:(H b).isSome=true:=(ag.mp hm).2
  rw[n]at q;simp at q
theorem of_hidT{h:Heap}{H:Hp}{b:Addr}{o:Obj}(e:(x2f h H).get? b=some o):h.get? b=some o∧H b=none:=by
 have e':h.get? b=some o:=PySem.W.of_hideAll (trk h H) e
 refine⟨e',?_⟩
 cases q:H b with
 |none=>rfl
 |some x=>
  have hm:b∈trk h H:=ag.mpr ⟨ai.mpr (Heap.lt_size e'),by simp[q]⟩
  have z:(x2f h H).get? b=none:=PySem.W.hideAll_none (trk h H) hm
  rw[z]at e;cases e
def allNews(g h:Heap)(L:Addr):List (Addr×Obj):=(ad h.objs.size).filterMap fun a=>if a=L∨(g.get? a).isSome=true then none else(h.get? a).map fun o=>(a,o)
def rest(g h:Heap)(L d:Addr):List (Addr×Obj):=(allNews g h L).filter fun p=>decide (p.1≠d)
structure Mod(K:aa)(mg:Str->Option Value)(base:Heap):Prop where
 kin:K.In base
 glob:base.Ns mainGlobals mg
 blt:∃mb,base.Ns builtinsNs mb∧∀x:Str,x ≠ "__name__" → mb x=fo x
 nolimit:base.NoLimit
structure Cx where
 prog:dw
 w:eX
 K:aa
 mg:Str->Option Value
 base:Heap
 A:Around
 N:List Str
 s₀:Shared
 H₀:Hp
 env:Env
 outer:List Env
 stack:List Env
 ex:List Addr
 fn:Str->Bool
 calm:Bool
 pn:List (Addr×Obj)
 xe:Value->Shared->Prop
def frs(l:List Env):List Addr:=l.filterMap (·.frame)
abbrev Cx.fs(X:Cx):List Addr:=frs X.outer
def Vis(sc:fu)(x:Str):Prop:=sc.names.lookup x=some .local∨sc.names.lookup x=some .cell∨sc.names.lookup x=some .free
def Loc(sc:fu)(x:Str):Prop:=sc.names.lookup x=some .local∨sc.names.lookup x=some .cell
def Look(env:Env)(h:Heap)(m:Str->Option Value)(x:Str)(u:Value):Prop:=
 (env.kindOf x=some .local∧m x=some u)∨((env.kindOf x=some .cell∨env.kindOf x=some .free)∧∃c,env.cells.lookup x=some c∧h.IsCell c (some u))
structure Cx.Ok(X:Cx):Prop where
 mod:Mod X.K X.mg X.base
 kind:X.env.scope.kind = .function
 glob:X.env.globals=mainGlobals
 blt:X.env.builtins=builtinsNs
 above:X.s₀.heap.objs.size≤X.env.locals
 inj:∀x y c,X.env.cells.lookup x=some c->X.env.cells.lookup y=some c->x=y
 has:∀x,(X.env.kindOf x=some .cell∨X.env.kindOf x=some .free)->∃c,X.env.cells.lookup x=some c
 cab:∀x c,X.fn x=true->X.env.cells.lookup x=some c->X.s₀.heap.objs.size≤c
 hd:X.calm=true->X.A.handled=none
 frames:X.A.frames=some X.stack
 stk:X.stack=X.outer∨(X.stack=X.env::X.outer∧X.env.frame=some X.env.locals)
 exf:∀b∈X.ex,b≠X.env.locals∧∀x c,X.env.cells.lookup x=some c->c≠b
 bs:∀b o,X.base.get? b=some o->X.s₀.heap.get? b=some o∧X.H₀ b=none
 bsz:X.base.objs.size≤X.s₀.heap.objs.size
 noex:∀b o,X.base.get? b=some o->b∉X.ex
 exfs:∀b∈X.ex,b∉X.fs
 funs:X.s₀.heap.FunFrames X.base X.outer
 frf:∀b∈X.fs,X.H₀ b=none
structure Inv(X:Cx)(pins:List (Addr×Obj))(σ:List (Option V))(H:Hp)(s:Shared):Prop where
 ok:X.Ok
 os:s.os=X.s₀.os
 bare:AllBare s.gens
 base:Un X.fs X.ex X.H₀ H X.s₀.heap s.heap
 loc:∃m,s.heap.Ns X.env.locals m∧∀(i:Nat) (x:Str) (v:V),X.N[i]? = some x->σ[i]? = some (some v)->Vis X.env.scope x->∃u,RelV v u∧Look X.env s.heap m x u
 cell:∀x c,X.env.cells.lookup x=some c->∃v,s.heap.IsCell c v
 free:H X.env.locals=none
 freeC:∀x c,X.env.cells.lookup x=some c->H c=none
 pin:∀p∈X.pn++pins,s.heap.get? p.1=some p.2∧H p.1=none∧p.1≠X.env.locals∧p.1∉X.fs∧∀v,p.2.data≠.cell v
 hok:HOk X.prog X.w H s.heap
 len:σ.length=X.N.length
section
variable{X:Cx}{pins:List (Addr×Obj)}{σ:List (Option V)}{H H':Hp}{s:Shared}{h':Heap}
theorem Cx.Ok.nofr(ok:X.Ok){b:Addr}{o:Obj}(e:X.base.get? b=some o):b∉X.fs:=fun hb=>by
 have:=(ok.funs.mem hb).1
 rw[e]at this;cases this
theorem Inv.bs(I:Inv X pins σ H s):∀b o,X.base.get? b=some o->s.heap.get? b=some o∧H b=none:=fun b o e=>
 ⟨I.base.keep b o (I.ok.bs b o e).1 (I.ok.bs b o e).2 (I.ok.nofr e) (I.ok.noex b o e),I.base.free b o (I.ok.bs b o e).1 (I.ok.bs b o e).2 (I.ok.noex b o e)⟩
theorem Inv.bk(I:Inv X pins σ H s):∀b o,X.base.get? b=some o->s.heap.get? b=some o:=fun b o e=>(I.bs b o e).1
theorem Inv.mod(I:Inv X pins σ H s):Mod X.K X.mg X.base:=I.ok.mod
theorem Inv.kIn(I:Inv X pins σ H s):X.K.In s.heap:=I.ok.mod.kin.keeps I.bk
theorem Inv.lt(I:Inv X pins σ H s):X.env.locals<s.heap.objs.size:=let⟨_,hn,_⟩:=I.loc;hn.lt
theorem Inv.sz(I:Inv X pins σ H s):X.s₀.heap.objs.size≤s.heap.objs.size:=aF I.ok.above (cG I.lt)
theorem Inv.nofs(I:Inv X pins σ H s){a:Addr}(h:s.heap.objs.size≤a):a∉X.fs:=fun hb=>by
 obtain⟨_,o,ho,_⟩:=I.ok.funs.mem hb
 exact absurd (aI (Heap.lt_size ho) (aF I.sz h)) (bK _)
theorem Inv.cne(I:Inv X pins σ H s):∀x c,X.env.cells.lookup x=some c->c≠X.env.locals:=fun x c e z=>by
 obtain⟨v,o,ho,hd⟩:=I.cell x c e
 obtain⟨m,⟨o',es,ep,ho',hd',_⟩,_⟩:=I.loc
 rw[z,ho']at ho;cases ho;rw[hd']at hd;cases hd
theorem Inv.funs(I:Inv X pins σ H s):s.heap.FunFrames X.base X.outer:=by
 have all:∀(l:List Env),(∀b∈frs l,b∈X.fs)->X.s₀.heap.FunFrames X.base l->s.heap.FunFrames X.base l:=by
  intro l
  induction l with
  |nil=>intro _ _;trivial
  |cons env r ih=>
   intro hs hl
   obtain⟨hk,⟨L,o,hf,hn,ho,hd⟩,hr⟩:=hl
   have hL:L∈X.fs:=hs L (by unfold frs;rw[b6,hf];exact af)
   obtain⟨sl,e⟩:=I.base.slot L o ho (I.ok.frf L hL) hL fun z=>I.ok.exfs L z hL
   exact⟨hk,⟨L,_,hf,hn,e,hd⟩,ih (fun b hb=>hs b (by unfold frs;rw[b6,hf];exact ae _ hb)) hr⟩
 exact all X.outer (fun _ hb=>hb) I.ok.funs
theorem Inv.stack(I:Inv X pins σ H s):s.heap.FunFrames X.base X.stack:=by
 rcases I.ok.stk with e | ⟨e,hf⟩
 ·rw[e];exact I.funs
 ·rw[e]
  obtain⟨m,hn,_⟩:=I.loc
  refine .cons (by rw[I.ok.kind];decide) hf hn ?_ I.funs
  exact Heap.get?_none_of_le (aF I.ok.bsz I.ok.above)
theorem Inv.stkSub(I:Inv X pins σ H s):∀b∈frs X.stack,b∈X.env.locals::X.fs:=fun b hb=>by
 rcases I.ok.stk with e | ⟨e,hf⟩
 ·rw[e]at hb;exact ae _ hb
 ·rw[e]at hb
  unfold frs at hb
  rw[b6,hf]at hb
  exact hb
theorem Inv.stkFree(I:Inv X pins σ H s):∀b∈frs X.stack,H b=none:=fun b hb=>by
 rcases ao.mp (I.stkSub b hb)with e | hb
 ·rw[e];exact I.free
 ·obtain⟨_,o,ho,_⟩:=I.ok.funs.mem hb
  exact I.base.free b o ho (I.ok.frf b hb) fun z=>I.ok.exfs b z hb
theorem Inv.step{g':Array GenState}{t':Nat}{d':Drawn}{ch:List Addr}(I:Inv X pins σ H s)
  (hch:∀b∈ch,(b∈X.ex∨X.s₀.heap.objs.size≤b)∧b≠X.env.locals∧(∀x c,X.env.cells.lookup x=some c->c≠b)∧∀p∈X.pn++pins,p.1≠b)
  (keep:∀b o,b≠X.env.locals->b∉X.fs->b∉ch->s.heap.get? b=some o->H b=none->h'.get? b=some o)
  (slot:∀b o,b≠X.env.locals->b∈X.fs->b∉ch->s.heap.get? b=some o->H b=none->∃sl,h'.get? b=some { o with slots:=sl }) (free:∀b o,b∉ch->s.heap.get? b=some o->H b=none->H' b=none)
  (there:∀b o,b∉ch->s.heap.get? b=some o->∃o',h'.get? b=some o')
  (tups:∀b xs,H b=some (.tup xs)->H' b=some (.tup xs)) (frzs:∀b o u,H b=some (.frz o u)->H' b=some (.frz o u)) (tbls:∀b ps,H b=some (.tbl ps)->∃more,H' b=some (.tbl (ps++more)))
  (ns:∀m,s.heap.Ns X.env.locals m->h'.Ns X.env.locals m) (hok:HOk X.prog X.w H' h') (hg:AllBare g'):
  Inv X pins σ H' { s with heap:=h',gens:=g',drawn:=d',toks:=t' }:=by
 have neL:∀b o,X.s₀.heap.get? b=some o->b≠X.env.locals:=fun b o e=>aG (aI (Heap.lt_size e) I.ok.above)
 have neC:∀b o,X.s₀.heap.get? b=some o->b∉X.ex->b∉ch:=fun b o e hx hb=>by
  rcases (hch b hb).1 with z | z
  ·exact hx z
  ·exact absurd (aI (Heap.lt_size e) z) (bK _)
 have cellK:∀x c,X.env.cells.lookup x=some c->∀v,s.heap.IsCell c v->h'.IsCell c v:=fun x c e v ⟨o,ho,hd⟩=>by
  have nch:c∉ch:=fun z=>(hch c z).2.2.1 x c e rfl
  by_cases hc:c∈X.fs
  ·obtain⟨sl,q⟩:=slot c o (I.cne x c e) hc nch ho (I.freeC x c e)
   exact⟨_,q,hd⟩
  ·exact⟨o,keep c o (I.cne x c e) hc nch ho (I.freeC x c e),hd⟩
 refine⟨I.ok,I.os,hg,⟨fun b o e n hb hx=>?_,fun b o e n hb hx=>?_,fun b o e n hx=>?_,fun b o e hx=>?_,fun b xs e=>tups b xs (I.base.tups b xs e),fun b o xs e=>frzs b o xs (I.base.frzs b o xs e),fun b ps e=>?_⟩,?_,fun x c e=>?_,?_,fun x c e=>?_,fun p hp=>?_,hok,I.len⟩
 ·exact keep b o (neL b o e) hb (neC b o e hx) (I.base.keep b o e n hb hx) (I.base.free b o e n hx)
 ·obtain⟨sl,e1⟩:=I.base.slot b o e n hb hx
  obtain⟨sl',e2⟩:=slot b _ (neL b o e) hb (neC b o e hx) e1 (I.base.free b o e n hx)
  exact⟨sl',e2⟩
 ·obtain⟨o',e1⟩:=I.base.there b o e hx
  exact free b o' (neC b o e hx) e1 (I.base.free b o e n hx)
 ·obtain⟨o',e1⟩:=I.base.there b o e hx
  exact there b o' (neC b o e hx) e1
 ·obtain⟨m1,e1⟩:=I.base.tbls b ps e
  obtain⟨m2,e2⟩:=tbls b _ e1
  exact⟨m1++m2,by rw[e2,Array.append_assoc]⟩
 ·obtain⟨m,hn,hl⟩:=I.loc
  refine⟨m,ns m hn,fun i x v e1 e2 e3=>?_⟩
  obtain⟨u,r,l⟩:=hl i x v e1 e2 e3
  refine⟨u,r,?_⟩
  rcases l with l | ⟨k,c,e,z⟩
  ·exact .inl l
  ·exact .inr ⟨k,c,e,cellK x c e _ z⟩
 ·obtain⟨v,z⟩:=I.cell x c e
  exact⟨v,cellK x c e v z⟩
 ·obtain⟨m,⟨o,_,_,ho,_⟩,_⟩:=I.loc
  exact free _ o (fun z=>(hch _ z).2.1 rfl) ho I.free
 ·obtain⟨v,o,ho,hd⟩:=I.cell x c e
  exact free c o (fun z=>(hch c z).2.2.1 x c e rfl) ho (I.freeC x c e)
 ·obtain⟨e,n,ne,nf,d⟩:=I.pin p hp
  have nch:p.1∉ch:=fun z=>(hch p.1 z).2.2.2 p hp rfl
  exact⟨keep p.1 p.2 ne nf nch e n,free p.1 p.2 nch e n,ne,nf,d⟩
theorem Inv.un{t':Nat}(I:Inv X pins σ H s)(u:Un X.fs [] H H' s.heap h')(hok:HOk X.prog X.w H' h'):Inv X pins σ H' { s with heap:=h',toks:=t' }:=by
 obtain⟨m,⟨o,es,ep,ho,r⟩,_⟩:=id I.loc
 obtain⟨sl,hL⟩:=u.any ho I.free (by simp)
 exact I.step (g':=s.gens) (d':=s.drawn) (ch:=[]) (fun _ z=>nomatch z) (fun b o _ hb _ e n=>u.keep b o e n hb (by simp)) (fun b o _ hb _ e n=>u.slot b o e n hb (by simp)) (fun b o _ e n=>u.free b o e n (by simp)) (fun b o _ e=>u.there b o e (by simp)) u.tups u.frzs u.tbls (fun m' hm=>by
  obtain⟨o',es',ep',ho',r'⟩:=hm
  rw[ho]at ho';cases ho'
  exact⟨_,es',ep',hL,r'⟩) hok I.bare
theorem Inv.call{g':Array GenState}{t':Nat}{d':Drawn}{ch:List Addr}(I:Inv X pins σ H s)(u:Un (frs X.stack) ch H H' s.heap h')(hok:HOk X.prog X.w H' h')(hg:AllBare g')
  (hch:∀b∈ch,(b∈X.ex∨X.s₀.heap.objs.size≤b)∧b≠X.env.locals∧(∀x c,X.env.cells.lookup x=some c->c≠b)∧∀p∈X.pn++pins,p.1≠b):
  Inv X pins σ H' { s with heap:=h',gens:=g',drawn:=d',toks:=t' }:=by
 obtain⟨m,⟨o,es,ep,ho,r⟩,_⟩:=id I.loc
 obtain⟨sl,hL⟩:=u.any ho I.free fun z=>(hch _ z).2.1 rfl
 exact I.step (ch:=ch) hch (fun b o hL hb hc e n=>u.keep b o e n (fun z=>(ao.mp (I.stkSub b z)).elim hL hb) hc) (fun b o _ _ hc e n=>u.any e n hc) (fun b o hc e n=>u.free b o e n hc) (fun b o hc e=>u.there b o e hc) u.tups u.frzs u.tbls (fun m' hm=>by
  obtain⟨o',es',ep',ho',r'⟩:=hm
  rw[ho]at ho';cases ho'
  exact⟨_,es',ep',hL,r'⟩) hok hg
theorem Inv.turned{t':Nat}{it:Addr}(I:Inv X pins σ H s)(k:∀b o,b≠it->s.heap.get? b=some o->h'.get? b=some o)(hn:H it=none)(hL:it≠X.env.locals)
  (h1:it∈X.ex∨X.s₀.heap.objs.size≤it) (h2:∀x c,X.env.cells.lookup x=some c->c≠it) (h3:∀p∈X.pn++pins,p.1≠it):Inv X pins σ H { s with heap:=h',toks:=t' }:=by
 have nit:∀b u,H b=some u->b≠it:=fun b u e z=>by rw[z,hn]at e;cases e
 refine I.step (g':=s.gens) (d':=s.drawn) (ch:=[it]) (fun b hb=>?_) (fun b o _ _ hc e _=>k b o (fun z=>hc (by simp[z])) e) (fun b o _ _ hc e _=>⟨o.slots,k b o (fun z=>hc (by simp[z])) e⟩) (fun _ _ _ _ n=>n)
  (fun b o hc e=>⟨o,k b o (fun z=>hc (by simp[z])) e⟩) (fun _ _ e=>e) (fun _ _ _ e=>e) (fun b ps e=>⟨#[],by rw[e];simp⟩) (fun m hm=>?_) (fun b u e=>?_) I.bare
 ·have e:b=it:=by simpa using hb
  subst e
  exact⟨h1,hL,h2,h3⟩
 ·obtain⟨o,es,ep,ho,r⟩:=hm
  exact⟨o,es,ep,k _ o (Ne.symm hL) ho,r⟩
 ·refine(I.hok b u e).stay (fun c v hc q=>k c v ?_ q) (fun _ q=>q) fun _ _ q=>q
  rcases hc with z | z
  ·rw[z];exact nit b u e
  ·exact nit c _ z
theorem Inv.tok(I:Inv X pins σ H s)(t:Nat):Inv X pins σ H { s with toks:=t }:=I.un (h':=s.heap) (t':=t) Un.refl I.hok
theorem Inv.kept{t':Nat}(I:Inv X pins σ H s)(k:∀b u,s.heap.get? b=some u->h'.get? b=some u):Inv X pins σ H { s with heap:=h',toks:=t' }:=I.un (Un.kept k) (I.hok.kept k)
theorem Inv.laid{a:Addr}{o:HO}{t':Nat}(I:Inv X pins σ H s)(k:∀b u,s.heap.get? b=some u->h'.get? b=some u)(hp:s.heap.objs.size≤a)(new:ObjOk X.prog X.w (upd H a o) h' a o):
  Inv X pins σ (upd H a o) { s with heap:=h',toks:=t' }:=I.un (Un.laid k hp (I.hok.fresh hp)) (I.hok.laid k hp new)
theorem Inv.write{x e:Addr}{o:HO}{t':Nat}(I:Inv X pins σ H s)(mu:Mut (H x))(he:e=x∨H e=some (.own x))(k:∀b u,b≠e->s.heap.get? b=some u->h'.get? b=some u)(heo:∃u,h'.get? e=some u)
  (new:ObjOk X.prog X.w (upd H x o) h' x o):Inv X pins σ (upd H x o) { s with heap:=h',toks:=t' }:=I.un (Un.write mu he k heo) (I.hok.write mu he k heo new)
theorem Inv.pins_of{pins':List (Addr×Obj)}(I:Inv X pins σ H s)(h:∀p∈pins',s.heap.get? p.1=some p.2∧H p.1=none∧p.1≠X.env.locals∧p.1∉X.fs∧∀v,p.2.data≠.cell v):Inv X pins' σ H s:=
 ⟨I.ok,I.os,I.bare,I.base,I.loc,I.cell,I.free,I.freeC,fun p hp=>(ar.mp hp).elim (fun z=>I.pin p (bX _ z)) (h p),I.hok,I.len⟩
theorem y3q{N:List Str}(hN:N.Nodup){i j:Nat}{x:Str}(a:N[i]? = some x)(b:N[j]? = some x):i=j:=by
 obtain⟨h1,e1⟩:=aP.mp a
 obtain⟨h2,e2⟩:=aP.mp b
 exact(List.getElem_inj hN).mp (e1.trans e2.symm)
theorem y0P{M:Model}{A:Around}{E:Value->Shared->Prop}{i:Nat}{x:Str}{v:V}{u:Value}{Q:Unit->Shared->Prop}(I:Inv X pins σ H s)(hN:X.N.Nodup)(hi:X.N[i]? = some x)(hx:Loc X.env.scope x)(r:RelV v u)
  (h:∀s',Inv X pins (σ.set i (some v)) H s'->(∃a,Heap.SameBut a s.heap s'.heap∧(a=X.env.locals∨X.env.cells.lookup x=some a))->Q () s') (hf:X.fn x=true∨X.env.scope.names.lookup x=some .local:=by first | exact .inl rfl | exact .inr rfl | assumption):wpAny M A (storeName X.env x u) Q E s:=by
 obtain⟨m,hn,hl⟩:=id I.loc
 have hcls:(X.env.scope.kind == .class||(X.env.scope.kind == .module&&X.env.locals != X.env.globals))=false:=by rw[I.ok.kind];rfl
 have hiσ:i<σ.length:=by rw[I.len];exact(aP.mp hi).1
 have cne:=I.cne
 have tracked:∀{a:Addr} {h':Heap},(∃o,s.heap.get? a=some o∧H a=none)->Heap.SameBut a s.heap h'->HOk X.prog X.w H h':=fun {a h'} ha hs b ob e=>by
  obtain⟨_,_,hfree⟩:=ha
  refine(I.hok b ob e).stay (fun c w' hc q=>(hs.2 c ?_).trans q) (fun _ q=>q) fun _ _ q=>q
  rintro rfl
  rcases hc with rfl | hc
  ·rw[hfree]at e;cases e
  ·rw[hfree]at hc;cases hc
 rcases hx with hk | hk
 ·refine wpAny_storeName_local hk hn (fun h' hn' hs=>?_) hcls
  obtain⟨oL,_,_,hoL,_⟩:=id hn
  refine h _ ⟨I.ok,I.os,I.bare,⟨fun b o e n hb hx=>?_,fun b o e n hb hx=>?_,I.base.free,fun b o e hx=>?_,I.base.tups,I.base.frzs,I.base.tbls⟩,⟨_,hn',fun j y v' e1 e2 e3=>?_⟩,fun y c e=>?_,I.free,I.freeC,fun p hp=>?_,tracked ⟨oL,hoL,I.free⟩ hs,by simpa using I.len⟩ ⟨_,hs,.inl rfl⟩
  ·exact(hs.2 b (aG (aI (Heap.lt_size e) I.ok.above))).trans (I.base.keep b o e n hb hx)
  ·obtain⟨sl,e1⟩:=I.base.slot b o e n hb hx
   exact⟨sl,(hs.2 b (aG (aI (Heap.lt_size e) I.ok.above))).trans e1⟩
  ·obtain⟨o',e1⟩:=I.base.there b o e hx
   exact⟨o',(hs.2 b (aG (aI (Heap.lt_size e) I.ok.above))).trans e1⟩
  ·by_cases hj:j=i
   ·subst hj
    rw[hi]at e1;cases e1
    rw[d6 hiσ]at e2
    cases e2
    exact⟨u,r,.inl ⟨hk,by simp⟩⟩
   ·rw[bn (Ne.symm hj)]at e2
    obtain⟨u',r',q⟩:=hl j y v' e1 e2 e3
    refine⟨u',r',?_⟩
    rcases q with⟨k,e⟩ | ⟨k,c,e,z⟩
    ·refine .inl ⟨k,?_⟩
     have:y≠x:=fun e=>hj (y3q hN e1 (e ▸ hi))
     simp[this,e]
    ·exact .inr ⟨k,c,e,z.sameBut hs (cne y c e)⟩
  ·obtain⟨w',z⟩:=I.cell y c e
   exact⟨w',z.sameBut hs (cne y c e)⟩
  ·obtain⟨e,n,ne,nf,d⟩:=I.pin p hp
   exact⟨(hs.2 p.1 ne).trans e,n,ne,nf,d⟩
 ·have hfn:X.fn x=true:=by
   rcases hf with z | z
   ·exact z
   ·rw[z]at hk;cases hk
  obtain⟨c,hc⟩:=I.ok.has x (.inl hk)
  obtain⟨w',z⟩:=I.cell x c hc
  refine wpAny_storeName_cell I.ok.kind hk hc z (fun h' hc' hs=>?_)
  obtain⟨oc,hoc,hocd⟩:=id z
  refine h { s with heap:=h' } ⟨I.ok,I.os,I.bare,⟨fun b o e n hb hx=>?_,fun b o e n hb hx=>?_,I.base.free,fun b o e hx=>?_,I.base.tups,I.base.frzs,I.base.tbls⟩,⟨m,hn.sameBut hs (Ne.symm (cne x c hc)),fun j y v' e1 e2 e3=>?_⟩,fun y c' e=>?_,I.free,I.freeC,fun p hp=>?_,tracked ⟨oc,hoc,I.freeC x c hc⟩ hs,by simpa using I.len⟩ ⟨c,hs,.inr hc⟩
  ·exact(hs.2 b (aG (aI (Heap.lt_size e) (I.ok.cab x c hfn hc)))).trans (I.base.keep b o e n hb hx)
  ·obtain⟨sl,e1⟩:=I.base.slot b o e n hb hx
   exact⟨sl,(hs.2 b (aG (aI (Heap.lt_size e) (I.ok.cab x c hfn hc)))).trans e1⟩
  ·obtain⟨o',e1⟩:=I.base.there b o e hx
   exact⟨o',(hs.2 b (aG (aI (Heap.lt_size e) (I.ok.cab x c hfn hc)))).trans e1⟩
  ·by_cases hj:j=i
   ·subst hj
    rw[hi]at e1;cases e1
    rw[d6 hiσ]at e2
    cases e2
    exact⟨u,r,.inr ⟨.inl hk,c,hc,hc'⟩⟩
   ·rw[bn (Ne.symm hj)]at e2
    obtain⟨u',r',q⟩:=hl j y v' e1 e2 e3
    refine⟨u',r',?_⟩
    rcases q with q | ⟨k,c',e,z'⟩
    ·exact .inl q
    ·refine .inr ⟨k,c',e,z'.sameBut hs ?_⟩
     rintro rfl
     exact hj (y3q hN e1 (I.ok.inj _ _ _ e hc ▸ hi))
  ·by_cases hcc:c'=c
   ·subst hcc;exact⟨_,hc'⟩
   ·obtain⟨w2,z2⟩:=I.cell y c' e
    exact⟨w2,z2.sameBut hs hcc⟩
  ·obtain⟨e,n,ne,nf,d⟩:=I.pin p hp
   refine⟨(hs.2 p.1 ?_).trans e,n,ne,nf,d⟩
   intro q
   rw[q,hoc]at e
   have q':oc=p.2:=Option.some.inj e
   exact d w' (by rw[←q'];exact hocd)
theorem y4g{M:Model}{A:Around}{E:Value->Shared->Prop}{i:Nat}{x:Str}{v:V}{u:Value}{Q:Unit->Shared->Prop}(I:Inv X pins σ H s)(hN:X.N.Nodup)(hi:X.N[i]? = some x)(hx:Loc X.env.scope x)(r:RelV v u)
  (h:∀s',Inv X pins (σ.set i (some v)) H s'->Q () s') (hf:X.fn x=true∨X.env.scope.names.lookup x=some .local:=by first | exact .inl rfl | exact .inr rfl | assumption):wpAny M A (storeName X.env x u) Q E s:=
 y0P I hN hi hx r (fun s' I' _=>h s' I') hf
theorem Inv.call'{s':Shared}{ch:List Addr}(I:Inv X pins σ H s)(ho:s'.os=s.os)(u:Un (frs X.stack) ch H H' s.heap s'.heap)(hok:HOk X.prog X.w H' s'.heap)(hg:AllBare s'.gens)
  (hch:∀b∈ch,(b∈X.ex∨X.s₀.heap.objs.size≤b)∧b≠X.env.locals∧(∀x c,X.env.cells.lookup x=some c->c≠b)∧∀p∈X.pn++pins,p.1≠b):Inv X pins σ H' s':=by
 obtain⟨h',g',d',t',o'⟩:=s'
 have e:o'=s.os:=ho
 subst e
 exact I.call (g':=g') (t':=t') (d':=d') u hok hg hch
end
abbrev XK:=Value->Option Addr->Hp->Prop
abbrev St:=List (Option V)
abbrev VK:=V->Hp->Prop
abbrev TE:=St->Hp->VK->Prop
abbrev TT:=St->Hp->(Bool->Hp->Prop)->Prop
abbrev TA:=St->Hp->(List V->Hp->Prop)->Prop
structure Ends where
 nx:St->Hp->Prop
 rt:VK
 bk:St->Hp->Prop:=fun _ _=>False
 ct:St->Hp->Prop:=fun _ _=>False
abbrev TS:=Ends->St->Hp->Prop
def EP(X:Cx)(pins:List (Addr×Obj))(σ:St)(Q:VK)(u:Value)(s':Shared):Prop:=∃v H',Inv X pins σ H' s'∧RelV v u∧Q v H'
def TP(X:Cx)(pins:List (Addr×Obj))(σ:St)(Q:Bool->Hp->Prop)(b:Bool)(s':Shared):Prop:=∃H',Inv X pins σ H' s'∧Q b H'
def AP(X:Cx)(pins:List (Addr×Obj))(σ:St)(Q:List V->Hp->Prop)(us:List Value)(s':Shared):Prop:=∃vs H',Inv X pins σ H' s'∧Vals vs us∧Q vs H'
def SP(X:Cx)(pins:List (Addr×Obj))(D:Ends)(f:Flow)(s':Shared):Prop:=
 match f with
 |.next=>∃σ' H',Inv X pins σ' H' s'∧D.nx σ' H'
 |.brk=>∃σ' H',Inv X pins σ' H' s'∧D.bk σ' H'
 |.cont=>∃σ' H',Inv X pins σ' H' s'∧D.ct σ' H'
 |.ret u=>∃v σ' H',Inv X pins σ' H' s'∧RelV v u∧D.rt v H'
def PE(X:Cx)(e:Expr)(t:TE):Prop:=
 ∀(pins:List (Addr×Obj)) (s:Shared) (σ:St) (H:Hp) (Q:VK),Inv X pins σ H s->t σ H Q->wpAny (model X.prog X.w) X.A (eval e X.env) (EP X pins σ Q) X.xe s
def PT(X:Cx)(e:Expr)(t:TT):Prop:=
 ∀(pins:List (Addr×Obj)) (s:Shared) (σ:St) (H:Hp) (Q:Bool->Hp->Prop),Inv X pins σ H s->t σ H Q->wpAny (model X.prog X.w) X.A (isTrue e X.env (eval e X.env)) (TP X pins σ Q) X.xe s
def PW(X:Cx)(e:Expr)(t:TT):Prop:=
 ∀(whole:Sem Value) (pins:List (Addr×Obj)) (s:Shared) (σ:St) (H:Hp) (Q:Bool->Hp->Prop),Inv X pins σ H s->t σ H Q->wpAny (model X.prog X.w) X.A (isTrue e X.env whole) (TP X pins σ Q) X.xe s
theorem PW.pt{X:Cx}{e:Expr}{t:TT}(h:PW X e t):PT X e t:=h _
def PA(X:Cx)(es:List Expr)(t:TA):Prop:=
 ∀(pos:Pos) (pins:List (Addr×Obj)) (s:Shared) (σ:St) (H:Hp) (Q:List V->Hp->Prop),Inv X pins σ H s->t σ H Q->wpAny (model X.prog X.w) X.A (spliced (e9 pos (starEach es X.env))) (AP X pins σ Q) X.xe s
def PS(X:Cx)(st:Stmt)(t:TS):Prop:=
 ∀(pins:List (Addr×Obj)) (s:Shared) (σ:St) (H:Hp) (D:Ends),Inv X pins σ H s->t D σ H->wpAny (model X.prog X.w) X.A (exec st X.env) (SP X pins D) X.xe s
def PSs(X:Cx)(st:List Stmt)(t:TS):Prop:=
 ∀(pins:List (Addr×Obj)) (s:Shared) (σ:St) (H:Hp) (D:Ends),Inv X pins σ H s->t D σ H->wpAny (model X.prog X.w) X.A (execs st X.env) (SP X pins D) X.xe s
theorem thn{α:Type}{t:Sem α}{Q Q':α->Shared->Prop}{M:Model}{A:Around}{E:Value->Shared->Prop}{s:Shared}(h:wpAny M A t Q E s)(hQ:∀a s,Q a s->Q' a s):wpAny M A t Q' E s:=wpAny_mono h hQ fun _ _ x=>x
section
variable{X:Cx}
def y5k(i:Nat):TE:=fun σ H Q=>∃v,σ[i]? = some (some v)∧Q v H
def tC(v:V):TE:=fun _ H Q=>Q v H
theorem pe_var{i:Nat}{x:Str}{pos:Pos}(hN:X.N[i]? = some x)(hv:Vis X.env.scope x)(hd:(x==("__debug__" : Str))=false:=by decide)(hcd:(x==("__classdict__" : Str))=false:=by decide):PE X (.Name x pos) (y5k i):=by
 intro pins s σ H Q I h
 obtain⟨v,e,h⟩:=h
 obtain⟨m,hn,hl⟩:=I.loc
 obtain⟨u,r,l⟩:=hl i x v hN e hv
 have fin:EP X pins σ Q u s:=⟨v,H,I,r,h⟩
 rcases l with⟨hk,hm⟩ | ⟨hk,c,hc,hcell⟩
 ·exact wpAny_Name (wpAny_loadName_local I.ok.kind hk hn hm fin) hd
 ·rcases hk with hk | hk
  ·exact wpAny_Name (wpAny_loadName_cell I.ok.kind hk hc hcell fin) hd
  ·exact wpAny_Name (wpAny_loadName_free I.ok.kind hk hc hcell fin hcd) hd
theorem pe_int{i j pos}:PE X (.Constant (.int i) j pos) (tC (.int i)):=fun _ _ _ H _ I h=>wpAny_Constant_int ⟨.int i,H,I.tok _,⟨_,rfl⟩,h⟩
theorem pe_bl{b j pos}:PE X (.Constant (.bool b) j pos) (tC (.bl b)):=fun _ _ _ H _ I h=>Constant_bool ⟨.bl b,H,I,rfl,h⟩
theorem pe_str{x j pos}:PE X (.Constant (.str x) j pos) (tC (.str x)):=fun _ _ _ H _ I h=>Calls.Constant_str ⟨.str x,H,I.tok _,⟨_,rfl⟩,h⟩
def Gl(X:Cx)(x:Str):Prop:=X.env.kindOf x=some .globalImplicit
theorem y2v{E:Value->Shared->Prop}{pins:List (Addr×Obj)}{s:Shared}{σ:St}{H:Hp}{x:Str}{u:Value}{pos:Pos}{Q:Value->Shared->Prop}(I:Inv X pins σ H s)(hg:Gl X x)(hm:X.mg x=some u)(h:Q u s)
  (hd:(x==("__debug__" : Str))=false:=by decide):wpAny (model X.prog X.w) X.A (eval (.Name x pos) X.env) Q E s:=
 Calls.Name_function_global I.ok.kind hg (Calls.loadGlobal_global (by rw[I.ok.glob];exact I.mod.glob.keeps I.bk) hm h) hd
theorem z4E{E:Value->Shared->Prop}{pins:List (Addr×Obj)}{s:Shared}{σ:St}{H:Hp}{x:Str}{u:Value}{pos:Pos}{Q:Value->Shared->Prop}(I:Inv X pins σ H s)(hg:Gl X x)(hm:X.mg x=none)(hv:fo x=some u)(h:Q u s)
  (hn:x ≠ "__name__" := by decide) (hd:(x==("__debug__" : Str))=false:=by decide):wpAny (model X.prog X.w) X.A (eval (.Name x pos) X.env) Q E s:=by
 obtain⟨mb,h1,h2⟩:=I.mod.blt
 exact Calls.Name_function_global I.ok.kind hg (Calls.loadGlobal_builtin (by rw[I.ok.glob];exact I.mod.glob.keeps I.bk) hm (by rw[I.ok.blt];exact h1.keeps I.bk) ((h2 x hn).trans hv) h) hd
theorem pe_bltn{x:Str}{v:V}{u:Value}{pos:Pos}(hg:Gl X x)(hm:X.mg x=none)(hv:fo x=some u)(r:RelV v u)(hn:x ≠ "__name__" := by decide)(hd:(x==("__debug__" : Str))=false:=by decide):PE X (.Name x pos) (tC v):=
 fun _ _ _ H _ I h=>z4E I hg hm hv ⟨v,H,I,r,h⟩ hn hd
variable{a b:Expr}{ta tb:TE}{pos:Pos}
def PC(X:Cx)(op:CmpOp)(a b:Expr)(t:TE):Prop:=
 ∀(pins:List (Addr×Obj)) (s:Shared) (σ:St) (H:Hp) (Q:VK),Inv X pins σ H s->t σ H Q →
  wpAny (model X.prog X.w) X.A (eval a X.env) (fun v s₁=>wpAny (model X.prog X.w) X.A (eval b X.env) (fun u s₂=>wpAny (model X.prog X.w) X.A (fb op v u) (EP X pins σ Q) X.xe s₂) X.xe s₁) X.xe s
theorem x2g(b:Expr){op:CmpOp}(h:op≠.In)(h2:op≠.NotIn):eZ op b=false:=by
 have e1:(op==CmpOp.In)=false:=by cases op <;> first | rfl | exact absurd rfl h
 have e2:(op==CmpOp.NotIn)=false:=by cases op <;> first | rfl | exact absurd rfl h2
 cases b <;> simp[eZ,e1,e2]
def tB(t:TE):TT:=fun σ H Q=>t σ H fun x H1=>∃c,x = .bl c∧Q c H1
theorem x3m{op:CmpOp}{t:TE}(h:PC X op a b t)(h1:eZ op b=false:=by first | exact x2g _ (by decide) (by decide) | rfl):PT X (.Compare a [op] [b] pos) (tB t):=by
 intro pins s σ H Q I hw
 refine wpAny_isTrue_Compare1 (thn (h pins s σ H _ I hw) fun v s1 h1=>thn h1 fun u s2 h2=>thn h2 fun c s3 ⟨x,H1,I1,r1,q1⟩=>?_) h1
 obtain⟨d,rfl,q⟩:=q1
 cases r1
 exact wpAny_truthy_bool ⟨H1,I1,q⟩
variable{tA tB':TT}{rest:List Expr}
def tAnd(t u:TT):TT:=fun σ H Q=>t σ H fun c H1=>if c=true then u σ H1 Q else Q false H1
def tOr(t u:TT):TT:=fun σ H Q=>t σ H fun c H1=>if c=true then Q true H1 else u σ H1 Q
def tNot(t:TT):TT:=fun σ H Q=>t σ H fun c H1=>Q (!c) H1
theorem pw_and1(ha:PT X a tA):PW X (.BoolOp .And [a] pos) tA:=by
 intro wh pins s σ H Q I h
 refine isTrue_and (thn (ha pins s σ H Q I h) fun c s1 e=>?_)
 cases c with
 |true=>exact isTrue_and_nil e
 |false=>exact e
theorem pw_or1(ha:PT X a tA):PW X (.BoolOp .Or [a] pos) tA:=by
 intro wh pins s σ H Q I h
 refine isTrue_or (thn (ha pins s σ H Q I h) fun c s1 e=>?_)
 cases c with
 |false=>exact isTrue_or_nil e
 |true=>exact e
theorem pw_and(ha:PT X a tA)(hb:PW X (.BoolOp .And (b::rest) pos) tB'):PW X (.BoolOp .And (a::b::rest) pos) (tAnd tA tB'):=by
 intro wh pins s σ H Q I h
 refine isTrue_and (thn (ha pins s σ H _ I h) fun c s1 ⟨H1,I1,q1⟩=>?_)
 cases c with
 |true=>exact hb wh pins s1 σ H1 Q I1 q1
 |false=>exact⟨H1,I1,q1⟩
theorem pw_or(ha:PT X a tA)(hb:PW X (.BoolOp .Or (b::rest) pos) tB'):PW X (.BoolOp .Or (a::b::rest) pos) (tOr tA tB'):=by
 intro wh pins s σ H Q I h
 refine isTrue_or (thn (ha pins s σ H _ I h) fun c s1 ⟨H1,I1,q1⟩=>?_)
 cases c with
 |true=>exact⟨H1,I1,q1⟩
 |false=>exact hb wh pins s1 σ H1 Q I1 q1
theorem pt_not(ha:PT X a tA):PT X (.UnaryOp .Not a pos) (tNot tA):=by
 intro pins s σ H Q I h
 exact isTrue_not (ha pins s σ H (fun c H1=>Q (!c) H1) I h)
def tAndV(ta tb:TE):TE:=fun σ H Q=>ta σ H fun x H1=>∃c,x = .bl c∧if c=true then tb σ H1 Q else Q (.bl false) H1
def tNotV(ta:TE):TE:=fun σ H Q=>ta σ H fun x H1=>∃c,x = .bl c∧Q (.bl (!c)) H1
theorem pe_one{op}{t:TE}(h:PE X a t):PE X (.BoolOp op [a] pos) t:=fun pins s σ H Q I hw=>BoolOp_one (h pins s σ H Q I hw)
theorem pe_and(ha:PE X a ta)(hb:PE X (.BoolOp .And (b::rest) pos) tb):PE X (.BoolOp .And (a::b::rest) pos) (tAndV ta tb):=by
 intro pins s σ H Q I h
 refine BoolOp_and (thn (ha pins s σ H _ I h) fun v s1 ⟨x,H1,I1,r1,q1⟩=>?_)
 obtain⟨c,rfl,q1⟩:=q1
 cases r1
 refine wpAny_truthy_bool ?_
 cases c with
 |true=>exact hb pins s1 σ H1 Q I1 q1
 |false=>exact⟨.bl false,H1,I1,rfl,q1⟩
theorem pe_not(ha:PE X a ta):PE X (.UnaryOp .Not a pos) (tNotV ta):=by
 intro pins s σ H Q I h
 refine UnaryOp_ (thn (ha pins s σ H _ I h) fun v s1 ⟨x,H1,I1,r1,q1⟩=>?_)
 obtain⟨c,rfl,q1⟩:=q1
 cases r1
 exact not_of (wpAny_truthy_bool ⟨.bl (!c),H1,I1,rfl,q1⟩)
def tIf(t:TT)(ta tb:TE):TE:=fun σ H Q=>t σ H fun c H1=>if c=true then ta σ H1 Q else tb σ H1 Q
theorem x0Q{c:Expr}(hc:PT X c tA)(ha:PE X a ta)(hb:PE X b tb):PE X (.IfExp c a b pos) (tIf tA ta tb):=by
 intro pins s σ H Q I h
 refine wpAny_IfExp (thn (hc pins s σ H _ I h) fun d s1 ⟨H1,I1,q1⟩=>?_)
 cases d with
 |true=>exact ha pins s1 σ H1 Q I1 q1
 |false=>exact hb pins s1 σ H1 Q I1 q1
end
def SqL(K:aa)(H:Hp)(a:Addr)(xs:List V):Prop:=
 Rd H a (.lst xs) ∨
  ∃(o:Obj) (its:Array Value) (n:Nat),K.lookup a=some o∧o.cls = .type "list" ∧ o.dict=none∧o.data = .seq its n∧its.size≤sizeLine∧Vals xs its.toList
def SqT(K:aa)(H:Hp)(a:Addr)(xs:List V):Prop:=
 Rd H a (.tup xs) ∨
  ∃(o:Obj) (its:Array Value) (n:Nat),K.lookup a=some o∧(o.cls = .type "tuple" ∧ o.dict=none)∧o.data = .seq its n∧its.size≤sizeLine∧Vals xs its.toList
def absV:Value->Option V
 |.none=>some .non
 |.bool b=>some (.bl b)
 |.int i _=>some (.int i)
 |.str x _=>some (.str x)
 |.bytes b _=>some (.byt b)
 |.float b _=>some (.flt b)
 |.ref a=>some (.ref a)
 |.type n=>some (.ty n)
 |_=>none
theorem RelV.abs{x:V}{u:Value}(r:RelV x u):absV u=some x:=by
 cases x with
 |non=>cases r;rfl
 |bl _=>cases r;rfl
 |int _=>obtain⟨t,rfl⟩:=r;rfl
 |str _=>obtain⟨t,rfl⟩:=r;rfl
 |byt _=>obtain⟨t,rfl⟩:=r;rfl
 |flt _=>obtain⟨t,rfl⟩:=r;rfl
 |ref _=>cases r;rfl
 |ty _=>cases r;rfl
theorem RelV.inj{x y:V}{u:Value}(r:RelV x u)(q:RelV y u):x=y:=Option.some.inj (r.abs.symm.trans q.abs)
theorem Vals.inj:∀{xs ys:List V} {us:List Value},Vals xs us->Vals ys us->xs=ys
 |_,_,_,.nil,.nil=>rfl
 |_,_,_,.cons r t,.cons r' t'=>by rw[r.inj r',Vals.inj t t']
section
variable{X:Cx}{pins:List (Addr×Obj)}{σ:St}{H:Hp}{s:Shared}{a:Addr}{xs ys:List V}
theorem SqL.of{K:aa}(h:H a=some (.lst xs)):SqL K H a xs:=.inl (.inl h)
theorem SqT.of{K:aa}(h:H a=some (.tup xs)):SqT K H a xs:=.inl (.inl h)
theorem Inv.list(I:Inv X pins σ H s)(h:SqL X.K H a xs):∃its:List Value,Vals xs its∧PlainL s.heap a its.toArray∧xs.length≤sizeLine:=by
 rcases h with h | ⟨o,its,n,hk,hc,hd,hs,hz,r⟩
 ·obtain⟨z,its,n,r,e⟩:=h.ok I.hok
  exact⟨its,r,⟨_,n,e,rfl,rfl,rfl⟩,z⟩
 ·refine⟨its.toList,r,⟨o,n,I.kIn a o hk,hc,hd,by simpa using hs⟩,?_⟩
  have e:=r.length
  simp only[bC]at e
  omega
theorem Inv.tuple(I:Inv X pins σ H s)(h:SqT X.K H a xs):∃its:List Value,Vals xs its∧IsTup s.heap a its.toArray∧xs.length≤sizeLine:=by
 rcases h with h | ⟨o,its,n,hk,hc,hs,hz,r⟩
 ·obtain⟨z,its,r,p⟩:=h.ok I.hok
  exact⟨its,r,p.is,z⟩
 ·refine⟨its.toList,r,⟨o,I.kIn a o hk,hc.1,n,by simpa using hs⟩,?_⟩
  have e:=r.length
  simp only[bC]at e
  omega
theorem Inv.list_inj(I:Inv X pins σ H s)(h:SqL X.K H a xs)(h':SqL X.K H a ys):xs=ys:=by
 obtain⟨its,r,⟨o,n,e,_,_,d⟩,_⟩:=I.list h
 obtain⟨its',r',⟨o',n',e',_,_,d'⟩,_⟩:=I.list h'
 rw[e]at e';cases e'
 rw[d]at d'
 injection d' with d1 _
 have:its=its':=by simpa using congrArg Array.toList d1
 subst this
 exact r.inj r'
theorem Inv.tuple_inj(I:Inv X pins σ H s)(h:SqT X.K H a xs)(h':SqT X.K H a ys):xs=ys:=by
 obtain⟨its,r,⟨o,e,_,n,d⟩,_⟩:=I.tuple h
 obtain⟨its',r',⟨o',e',_,n',d'⟩,_⟩:=I.tuple h'
 rw[e]at e';cases e'
 rw[d]at d'
 injection d' with d1 _
 have:its=its':=by simpa using congrArg Array.toList d1
 subst this
 exact r.inj r'
end
abbrev Cx.wish(X:Cx)(E:Value->Shared->Prop):Cx:={ X with xe:=E }
abbrev Cx.nox(X:Cx):Cx:=X.wish fun _ _=>False
theorem Cx.Ok.wish{X:Cx}(ok:X.Ok)(E:Value->Shared->Prop):(X.wish E).Ok:=
 ⟨ok.mod,ok.kind,ok.glob,ok.blt,ok.above,ok.inj,ok.has,ok.cab,ok.hd,ok.frames,ok.stk,ok.exf,ok.bs,ok.bsz,ok.noex,ok.exfs,ok.funs,ok.frf⟩
theorem Cx.Ok.unwish{X:Cx}{E:Value->Shared->Prop}(ok:(X.wish E).Ok):X.Ok:=
 ⟨ok.mod,ok.kind,ok.glob,ok.blt,ok.above,ok.inj,ok.has,ok.cab,ok.hd,ok.frames,ok.stk,ok.exf,ok.bs,ok.bsz,ok.noex,ok.exfs,ok.funs,ok.frf⟩
section
variable{X:Cx}{pins:List (Addr×Obj)}{σ:St}{H:Hp}{s:Shared}{E:Value->Shared->Prop}
theorem Inv.wish(I:Inv X pins σ H s)(E:Value->Shared->Prop):Inv (X.wish E) pins σ H s:=⟨I.ok.wish E,I.os,I.bare,I.base,I.loc,I.cell,I.free,I.freeC,I.pin,I.hok,I.len⟩
theorem Inv.unwish(I:Inv (X.wish E) pins σ H s):Inv X pins σ H s:=⟨I.ok.unwish,I.os,I.bare,I.base,I.loc,I.cell,I.free,I.freeC,I.pin,I.hok,I.len⟩
theorem SP.unwish{D:Ends}{f:Flow}{s':Shared}(h:SP (X.wish E) pins D f s'):SP X pins D f s':=by
 cases f with
 |next=>obtain⟨σ',H',I,q⟩:=h;exact⟨σ',H',I.unwish,q⟩
 |brk=>obtain⟨σ',H',I,q⟩:=h;exact⟨σ',H',I.unwish,q⟩
 |cont=>obtain⟨σ',H',I,q⟩:=h;exact⟨σ',H',I.unwish,q⟩
 |ret u=>obtain⟨v,σ',H',I,r,q⟩:=h;exact⟨v,σ',H',I.unwish,r,q⟩
theorem PSs.nox{st:List Stmt}{t:TS}(h:PSs X.nox st t):PSs X st t:=fun pins s σ H D I hw=>
 wpAny_mono (h pins s σ H D (I.wish _) hw) (fun _ _ q=>q.unwish) fun _ _ z=>False.elim z
end
section
variable{X:Cx}{st:Stmt}{rest:List Stmt}{t u:TS}{e:Expr}{te:TE}{pos:Pos}
def tNext:TS:=fun D σ H=>D.nx σ H
def tSeq(t u:TS):TS:=fun D σ H=>t { D with nx:=u D } σ H
theorem pss_nil:PSs X [] tNext:=fun _ _ σ H _ I h=>wpAny_execs_nil ⟨σ,H,I,h⟩
theorem x1K(h1:PS X st t)(h2:PSs X rest u):PSs X (st::rest) (tSeq t u):=by
 intro pins s σ H D I h
 refine wpAny_execs_cons (thn (h1 pins s σ H { D with nx:=u D } I h) fun f s1 q=>?_)
 cases f with
 |next=>
  obtain⟨σ',H',I',q⟩:=q
  exact h2 pins s1 σ' H' D I' q
 |ret v=>exact q
 |brk=>exact q
 |cont=>exact q
theorem pss_one(h1:PS X st t):PSs X [st] t:=by
 intro pins s σ H D I h
 refine wpAny_execs_cons (thn (h1 pins s σ H D I h) fun f s1 q=>?_)
 cases f with
 |next=>exact wpAny_execs_nil q
 |ret v=>exact q
 |brk=>exact q
 |cont=>exact q
theorem Inv.quiet{pins:List (Addr×Obj)}{σ:St}{H:Hp}{s:Shared}(I:Inv X pins σ H s):interactive X.env=false:=by simp[interactive,I.ok.kind]
def tDrop(te:TE):TS:=fun D σ H=>te σ H fun _ H1=>D.nx σ H1
theorem z8t(he:PE X e te)(hs:swapsWith e none pos.line X.env=pure false:=by rfl):PS X (.Expr e pos) (tDrop te):=by
 intro pins s σ H D I h
 exact wpAny_Expr_any (thn (he pins s σ H _ I h) fun v s1 ⟨x,H1,I1,r1,q1⟩=>⟨σ,H1,I1,q1⟩) I.quiet hs
def tRet(te:TE):TS:=fun D σ H=>te σ H D.rt
theorem z8i(he:PE X e te):PS X (.Return (some e) pos) (tRet te):=by
 intro pins s σ H D I h
 exact wpAny_Return_some (thn (he pins s σ H _ I h) fun v s1 ⟨x,H1,I1,r1,q1⟩=>⟨x,σ,H1,I1,r1,q1⟩)
def tIfS(c:TT)(t u:TS):TS:=fun D σ H=>c σ H fun b H1=>if b=true then t D σ H1 else u D σ H1
theorem ps_if{c:Expr}{a b:List Stmt}{tc:TT}(hc:PT X c tc)(ha:PSs X a t)(hb:PSs X b u):PS X (.If c a b pos) (tIfS tc t u):=by
 intro pins s σ H D I h
 refine wpAny_If (thn (hc pins s σ H _ I h) fun d s1 ⟨H1,I1,q1⟩=>?_)
 cases d with
 |true=>exact ha pins s1 σ H1 D I1 q1
 |false=>exact hb pins s1 σ H1 D I1 q1
end
abbrev TG:=V->St->Hp->(St->Hp->Prop)->Prop
abbrev TGs:=List V->St->Hp->(St->Hp->Prop)->Prop
def PG(X:Cx)(target:Expr)(t:TG):Prop:=
 ∀(pins:List (Addr×Obj)) (s:Shared) (σ:St) (H:Hp) (v:V) (u:Value) (Q:St->Hp->Prop),Inv X pins σ H s->RelV v u->t v σ H Q →
  wpAny (model X.prog X.w) X.A (assign target X.env u) (fun _ s'=>∃σ' H',Inv X pins σ' H' s'∧Q σ' H') X.xe s
def PGs(X:Cx)(ts:List Expr)(t:TGs):Prop:=
 ∀(pins:List (Addr×Obj)) (s:Shared) (σ:St) (H:Hp) (vs:List V) (us:List Value) (Q:St->Hp->Prop),Inv X pins σ H s->Vals vs us->t vs σ H Q →
  wpAny (model X.prog X.w) X.A (assignInOrder ((e7 ts X.env).map (·.2)) us) (fun _ s'=>∃σ' H',Inv X pins σ' H' s'∧Q σ' H') X.xe s
abbrev TSet:=V->V->V->Hp->(Hp->Prop)->Prop
def PSet(X:Cx)(t:TSet):Prop:=
 ∀(pins:List (Addr×Obj)) (s:Shared) (σ:St) (H:Hp) (o i v:V) (ov iv u:Value) (Q:Hp->Prop),Inv X pins σ H s->RelV o ov->RelV i iv->RelV v u->t o i v H Q →
  wpAny (model X.prog X.w) X.A (setItem ov iv u) (fun _ s'=>∃H',Inv X pins σ H' s'∧Q H') X.xe s
section
variable{X:Cx}{pos:Pos}
def z3f(i:Nat):TG:=fun v σ H Q=>Q (σ.set i (some v)) H
theorem z0l{i:Nat}{x:Str}(hN:X.N.Nodup)(hi:X.N[i]? = some x)(hx:Loc X.env.scope x)(hf:X.fn x=true∨X.env.scope.names.lookup x=some .local:=by first | exact .inl rfl | exact .inr rfl | assumption):PG X (.Name x pos) (z3f i):=by
 intro pins s σ H v u Q I r h
 exact wpAny_assign_Name (y4g I hN hi hx r (fun s' I'=>⟨_,H,I',h⟩) hf)
def gNil:TGs:=fun vs σ H Q=>vs=[]∧Q σ H
def x0b(t:TG)(u:TGs):TGs:=fun vs σ H Q=>∃v r,vs=v::r∧t v σ H fun σ' H'=>u r σ' H' Q
theorem y6e:PGs X [] gNil:=by
 intro pins s σ H vs us Q I r h
 obtain⟨e,h⟩:=h
 subst e
 cases r
 exact assignInOrder_nil ⟨σ,H,I,h⟩
theorem z6c{e:Expr}{es:List Expr}{t:TG}{u:TGs}(h1:PG X e t)(h2:PGs X es u)
  (hs:(e7 (e::es) X.env).map (·.2)=assign e X.env::(e7 es X.env).map (·.2):=by rfl):PGs X (e::es) (x0b t u):=by
 intro pins s σ H vs us Q I r h
 obtain⟨v,vr,e1,h⟩:=h
 subst e1
 cases r with
 |cons r rr=>
  rw[hs]
  refine assignInOrder_cons (thn (h1 pins s σ H _ _ _ I r h) fun _ s1 ⟨σ1,H1,I1,q1⟩=>?_)
  exact h2 pins s1 σ1 H1 _ _ Q I1 rr q1
def gTup(K:aa)(n:Nat)(t:TGs):TG:=fun v σ H Q=>∃a xs,v = .ref a∧SqT K H a xs∧xs.length=n∧t xs σ H Q
theorem x2p{es:List Expr}{k:Nat}{t:TGs}{n:Nat}(hc:X.calm=true)(h:PGs X es t)
  (hn:(e7 es X.env).length=n:=by rfl) (hst:(e7 es X.env).findIdx? (·.1)=none:=by rfl):PG X (.Tuple es k pos) (gTup X.K n t):=by
 intro pins s σ H v u Q I r hw
 obtain⟨a,xs,e1,hq,hl,hw⟩:=hw
 subst e1
 cases r
 obtain⟨its,rv,ht,hz⟩:=I.tuple hq
 refine assign_Tuple_tuple (I.ok.hd hc) ht (by simp[hn,←hl,rv.length]) hst fun h' hx=>?_
 have I1:Inv X pins σ H { s with heap:=h' }:=I.kept (t':=s.toks) fun b o e=>hx b o (aG (Heap.lt_size e)) e
 exact h pins _ σ H xs _ Q I1 (by simpa using rv) hw
def gSub(to ti:TE)(t:TSet):TG:=fun v σ H Q=>to σ H fun o H1=>ti σ H1 fun i H2=>t o i v H2 fun H3=>Q σ H3
theorem pg_sub{o i:Expr}{to ti:TE}{t:TSet}(ho:PE X o to)(hi:PE X i ti)(hs:PSet X t)
  (ha:∀v,assign (.Subscript o i pos) X.env v=(do
   let ov ←holding [v] (eval o X.env)
   let iv ←holding [v,ov] (eval i X.env)
   standAt pos
   holding [v,ov,iv] (setItem ov iv v)
   release [v,ov,iv] []):=by intro _;rfl):PG X (.Subscript o i pos) (gSub to ti t):=by
 intro pins s σ H v u Q I r h
 rw[ha]
 refine wpAny_bind (wpAny_holding (thn (ho pins s σ H _ I h) fun ov s1 ⟨x,H1,I1,r1,q1⟩=>?_))
 refine wpAny_bind (wpAny_holding (thn (hi pins s1 σ H1 _ I1 q1) fun iv s2 ⟨y,H2,I2,r2,q2⟩=>?_))
 refine wpAny_bind (wpAny_standAt (wpAny_bind (wpAny_holding (thn (hs pins s2 σ H2 x y v ov iv u _ I2 r1 r2 r q2) fun _ s3 ⟨H3,I3,q3⟩=>?_))))
 exact wpAny_release ⟨σ,H3,I3,q3⟩
def tAsg(te:TE)(g:TG):TS:=fun D σ H=>te σ H fun x H1=>g x σ H1 D.nx
theorem ps_asg{tg e:Expr}{te:TE}{g:TG}(he:PE X e te)(hg:PG X tg g)(hs:swapsWithSole [tg] e pos.line X.env=pure false:=by rfl)(hw:swappedStores [tg] e X.env=pure none:=by rfl)
  (h1:(e7 [tg] X.env).map (·.2)=[assign tg X.env]:=by rfl):PS X (.Assign [tg] e pos) (tAsg te g):=by
 intro pins s σ H D I h
 refine wpAny_Assign_stores (thn (he pins s σ H _ I h) fun v s1 ⟨x,H1,I1,r1,q1⟩=>?_) hs hw
 rw[h1]
 exact thn (hg pins s1 σ H1 x v _ I1 r1 q1) fun _ s2 q=>q
theorem ps_set{i:Nat}{x:Str}{e:Expr}{te:TE}{pos':Pos}(hN:X.N.Nodup)(hi:X.N[i]? = some x)(hx:Loc X.env.scope x)(he:PE X e te)(hs:swapsWith e (some (.Name x pos')) pos.line X.env=pure false:=by rfl)(hf:X.fn x=true∨X.env.scope.names.lookup x=some .local:=by first | exact .inl rfl | exact .inr rfl | assumption):
  PS X (.Assign [.Name x pos'] e pos) (tAsg te (z3f i)):=by
 intro pins s σ H D I h
 refine wpAny_Assign_Name (thn (he pins s σ H _ I h) fun v s1 ⟨y,H1,I1,r1,q1⟩=>?_) hs
 exact y4g I1 hN hi hx r1 (fun s2 I2=>⟨_,H1,I2,q1⟩) hf
end
section
variable{X:Cx}{pos:Pos}
def tWhile(c:TT)(tb:TS):TS:=fun D σ H=>∃W:Nat->St->Hp->Prop,(∃m,W m σ H)∧∀m σ H,W m σ H →
 c σ H fun b H1=>if b=true then ∃N:St->Hp->Prop,(∀σ' H',N σ' H'->∃m',m'<m∧W m' σ' H')∧tb { D with nx:=N,ct:=N,bk:=D.nx } σ H1 else D.nx σ H1
theorem x0o{c:Expr}{body:List Stmt}{tc:TT}{tb:TS}(hp:PassesOwn (model X.prog X.w) X.A X.env X.xe)(hc:PT X c tc)(hb:PSs X body tb):PS X (.While c body [] pos) (tWhile tc tb):=by
 intro pins s σ H D I h
 obtain⟨W,⟨m0,w0⟩,turn⟩:=h
 refine wpAny_While (codeAny_whileLoop (fun n s'=>∃σ' H',Inv X pins σ' H' s'∧W n σ' H') ?_ m0 ⟨σ,H,I,w0⟩)
 rintro n s1 ⟨σ1,H1,I1,w1⟩
 refine wpAny_passesOwn hp (thn (hc pins s1 σ1 H1 _ I1 (turn n σ1 H1 w1)) fun b s2 ⟨H2,I2,q2⟩=>?_)
 cases b with
 |true=>
  obtain⟨N,hN,q2⟩:=q2
  rw[if_pos rfl]
  refine wpAny_passesOwn hp (thn (hb pins s2 σ1 H2 _ I2 q2) fun f s3 q3=>?_)
  cases f with
  |next=>
   obtain⟨σ3,H3,I3,n3⟩:=q3
   obtain⟨m',hm,w3⟩:=hN σ3 H3 n3
   exact⟨m',hm,σ3,H3,I3,w3⟩
  |cont=>
   obtain⟨σ3,H3,I3,n3⟩:=q3
   obtain⟨m',hm,w3⟩:=hN σ3 H3 n3
   exact⟨m',hm,σ3,H3,I3,w3⟩
  |brk=>exact q3
  |ret v=>exact q3
 |false=>
  rw[if_neg ak]
  exact wpAny_execs_nil ⟨σ1,H2,I2,q2⟩
end
structure It where
 go:Nat->Hp->Prop
 yld:Nat->Hp->V->Hp->Prop
 stop:Nat->Hp->Prop
def y0O(X:Cx)(pins:List (Addr×Obj))(H:Hp)(b:Addr):Prop:=
 H b=none∧b≠X.env.locals∧b∉X.fs∧(b∈X.ex∨X.s₀.heap.objs.size≤b)∧(∀x c,X.env.cells.lookup x=some c->c≠b)∧∀p∈X.pn++pins,p.1≠b
theorem Inv.fpOk{X:Cx}{pins:List (Addr×Obj)}{σ:St}{H H':Hp}{s:Shared}{b:Addr}(I:Inv X pins σ H s)(hb:s.heap.objs.size≤b)(hn:H' b=none):y0O X pins H' b:=by
 refine⟨hn,cF (aI I.lt hb),I.nofs hb,.inr (aF I.sz hb),fun x c e z=>?_,fun p hp z=>?_⟩
 ·obtain⟨v,q⟩:=I.cell x c e
  exact absurd (aI q.lt (by rw[z];exact hb)) (bK _)
 ·exact absurd (aI (Heap.lt_size (I.pin p hp).1) (by rw[z];exact hb)) (bK _)
structure Turn(P:dw)(w:eX)(K:aa)(tg:Expr)(J:It)(fp:List Addr)(it:Addr)(tn:Nat->Heap->Prop):Prop where
 mem:it∈fp
 obj:∀i h,tn i h->∀b∈fp,∃o,h.get? b=some o∧∀v,o.data≠.cell v
 keep:∀i h h',tn i h->(∀b∈fp,∀o,h.get? b=some o->h'.get? b=some o)->tn i h'
 item:∀(X:Cx),X.prog=P->X.w=w->X.K=K->X.calm=true->∀(i:Nat) (pins:List (Addr×Obj)) (s:Shared) (σ:St) (H:Hp) (E:Value->Shared->Prop),Inv X pins σ H s->(∀b∈fp,y0O X pins H b)->tn i s.heap->J.go i H →
  wpAny (model P w) X.A (pyNext (.ref it)) (fun r s1=>∃u,r=some u ∧
   wpAny (model P w) X.A (letOwnedTupleGo tg (.ref it) u) (fun _ s2=>∃x H',Inv X pins σ H' s2∧RelV x u∧J.yld i H x H'∧tn (i+1) s2.heap∧∀b∈fp,H' b=none) E s1) E s
 done:∀(X:Cx),X.prog=P->X.w=w->X.K=K->X.calm=true->∀(i:Nat) (pins:List (Addr×Obj)) (s:Shared) (σ:St) (H:Hp) (E:Value->Shared->Prop),Inv X pins σ H s->(∀b∈fp,y0O X pins H b)->tn i s.heap->J.stop i H →
  wpAny (model P w) X.A (pyNext (.ref it)) (fun r s1=>r=none∧Inv X pins σ H s1) E s
 self:∀(A:Around) (i:Nat) (s:Shared) (Q:Value->Shared->Prop) (E:Value->Shared->Prop),tn i s.heap->Q (.ref it) s->wpAny (model P w) A (pyIter (.ref it)) Q E s
abbrev TI:=St->Hp->(It->Hp->Prop)->Prop
def PIE(X:Cx)(pins:List (Addr×Obj))(σ:St)(tg:Expr)(R:It->Hp->Prop)(itv:Value)(s2:Shared):Prop:=
 ∃(it:Addr) (fp:List Addr) (tn:Nat->Heap->Prop) (J:It) (H':Hp),itv = .ref it∧Inv X pins σ H' s2∧Turn X.prog X.w X.K tg J fp it tn∧tn 0 s2.heap∧(∀b∈fp,y0O X pins H' b)∧R J H'
def PI(X:Cx)(tg iter:Expr)(wi:TI):Prop:=
 ∀(pins:List (Addr×Obj)) (s:Shared) (σ:St) (H:Hp) (R:It->Hp->Prop),Inv X pins σ H s->wi σ H R →
  wpAny (model X.prog X.w) X.A (eval iter X.env) (fun v s1=>wpAny (model X.prog X.w) X.A (pyIter v) (PIE X pins σ tg R) X.xe s1) X.xe s
theorem x0w{M:Model}{A:Around}{E:Value->Shared->Prop}{s:Shared}{tg:Expr}{it:Addr}{u:Value}{o:Obj}{n:String}{vs:Array Value}{Q:Unit->Shared->Prop}(ho:s.heap.get? it=some o)(hc:o.cls = .type n)(hd:o.data = .fields vs)
  (hn:["enumerate", "zip", "dict_itemiterator", "dict_reverseitemiterator", "odict_iterator", "itertools.zip_longest", "itertools.pairwise"].contains n=false) (hQ:Q () s):wpAny M A (letOwnedTupleGo tg (.ref it) u) Q E s:=by
 unfold letOwnedTupleGo
 cases tg <;> first
  |exact wpAny_pure hQ
  | (cases u <;> first
    |exact wpAny_pure hQ
    | (refine wpAny_bind (wpAny_load ho ?_)
       rw[hc,hd]
       show wpAny M A (if(["enumerate", "zip", "dict_itemiterator", "dict_reverseitemiterator", "odict_iterator", "itertools.zip_longest", "itertools.pairwise"].contains n&&vs[0]? == some (rawInt _))=true then _ else _) Q E s
       rw[if_neg (by intro h;rw[hn,dU]at h;cases h)]
       exact wpAny_pure hQ))
def Itl(K:aa)(a:Addr):It:=
 ⟨fun i H=>∃xs x,SqL K H a xs∧xs[i]? = some x,fun i H x H'=>H'=H∧∀xs,SqL K H a xs->xs[i]? = some x,fun i H=>∃xs,SqL K H a xs∧xs.length≤i⟩
def Itt(K:aa)(a:Addr):It:=
 ⟨fun i H=>∃xs x,SqT K H a xs∧xs[i]? = some x,fun i H x H'=>H'=H∧∀xs,SqT K H a xs->xs[i]? = some x,fun i H=>∃xs,SqT K H a xs∧xs.length≤i⟩
def Itr(lo:Int)(n:Nat):It:=⟨fun i _=>i<n,fun i H x H'=>H'=H∧x = .int (lo+i),fun i _=>n≤i⟩
theorem y7f{P:dw}{w:eX}{K:aa}{tg:Expr}(a it:Addr):Turn P w K tg (Itl K a) [it] it (fun i h=>h.IsListIter it a i) where
 mem:=by simp
 obj:=fun i h st b hb=>by
  have e:b=it:=by simpa using hb
  subst e
  obtain⟨o,e,c,d⟩:=st
  exact⟨o,e,fun v z=>by rw[d]at z;cases z⟩
 keep:=fun i h h' st k=>st.at fun o e=>k it (by simp) o e
 item:=by
  intro X hP hw hK hc i pins s σ H E I hf st hg
  subst hP hw hK
  obtain⟨xs,x,hq,hx⟩:=hg
  obtain⟨its,rv,p,hz⟩:=I.list hq
  obtain⟨u,hu,ru⟩:=rv.get hx
  obtain⟨f0,f1,f2,f3,f4,f5⟩:=hf it (by simp)
  refine wpAny_pyNext_list_item st p.isList (x:=u) (by simpa using hu) fun h' st' sb=>?_
  have I1:Inv X pins σ H { s with heap:=h' }:=I.turned (t':=s.toks) (fun b o hb e=>(sb.2 b hb).trans e) f0 f1 f3 f4 f5
  obtain⟨o,e,c,d⟩:=id st'
  exact⟨u,rfl,x0w (s:={ s with heap:=h' }) e c d (by decide) ⟨x,H,I1,ru,⟨rfl,fun ys hy=>by rw[I.list_inj hy hq];exact hx⟩,st',fun b hb=>(hf b hb).1⟩⟩
 done:=by
  intro X hP hw hK hc i pins s σ H E I hf st hg
  subst hP hw hK
  obtain⟨xs,hq,hx⟩:=hg
  obtain⟨its,rv,p,hz⟩:=I.list hq
  obtain⟨f0,f1,f2,f3,f4,f5⟩:=hf it (by simp)
  have hl:=rv.length
  exact wpAny_pyNext_list_end (I.ok.hd hc) st p.isList (by simp;omega) fun h' eb=>⟨rfl,I.turned (t':=s.toks) (fun b o hb e=>eb b o hb e) f0 f1 f3 f4 f5⟩
 self:=fun _ _ _ _ _ st h=>wpAny_pyIter_listiter st h
theorem y5v{P:dw}{w:eX}{K:aa}{tg:Expr}(a it:Addr):Turn P w K tg (Itt K a) [it] it (fun i h=>h.IsTupleIter it a i) where
 mem:=by simp
 obj:=fun i h st b hb=>by
  have e:b=it:=by simpa using hb
  subst e
  obtain⟨o,e,c,d⟩:=st
  exact⟨o,e,fun v z=>by rw[d]at z;cases z⟩
 keep:=fun i h h' st k=>st.at fun o e=>k it (by simp) o e
 item:=by
  intro X hP hw hK hc i pins s σ H E I hf st hg
  subst hP hw hK
  obtain⟨xs,x,hq,hx⟩:=hg
  obtain⟨its,rv,p,hz⟩:=I.tuple hq
  obtain⟨u,hu,ru⟩:=rv.get hx
  obtain⟨f0,f1,f2,f3,f4,f5⟩:=hf it (by simp)
  refine wpAny_pyNext_tuple_item st (show s.heap.IsTuple a its.toArray from p) (x:=u) (by simpa using hu) fun h' st' sb=>?_
  have I1:Inv X pins σ H { s with heap:=h' }:=I.turned (t':=s.toks) (fun b o hb e=>(sb.2 b hb).trans e) f0 f1 f3 f4 f5
  obtain⟨o,e,c,d⟩:=id st'
  exact⟨u,rfl,x0w (s:={ s with heap:=h' }) e c d (by decide) ⟨x,H,I1,ru,⟨rfl,fun ys hy=>by rw[I.tuple_inj hy hq];exact hx⟩,st',fun b hb=>(hf b hb).1⟩⟩
 done:=by
  intro X hP hw hK hc i pins s σ H E I hf st hg
  subst hP hw hK
  obtain⟨xs,hq,hx⟩:=hg
  obtain⟨its,rv,p,hz⟩:=I.tuple hq
  obtain⟨f0,f1,f2,f3,f4,f5⟩:=hf it (by simp)
  have hl:=rv.length
  exact wpAny_pyNext_tuple_end (I.ok.hd hc) st (show s.heap.IsTuple a its.toArray from p) (by simp;omega) fun h' eb=>⟨rfl,I.turned (t':=s.toks) (fun b o hb e=>eb b o hb e) f0 f1 f3 f4 f5⟩
 self:=fun _ _ _ _ _ st h=>wpAny_pyIter_tupleiter st h
theorem y5e{P:dw}{w:eX}{K:aa}{tg:Expr}(it:Addr)(lo:Int)(n:Nat):Turn P w K tg (Itr lo n) [it] it (fun i h=>IsRangeIter h it (lo+(i:Nat)*1) ((n:Int) - (i:Nat)) 1) where
 mem:=by simp
 obj:=fun i h st b hb=>by
  have e:b=it:=by simpa using hb
  subst e
  exact⟨_,st,fun v z=>by
   have z':Data.fields _=Data.cell v:=z
   cases z'⟩
 keep:=fun i h h' st k=>k it (by simp) _ st
 item:=by
  intro X hP hw hK hc i pins s σ H E I hf st hg
  subst hP hw hK
  obtain⟨f0,f1,f2,f3,f4,f5⟩:=hf it (by simp)
  have W:=Walks.range (prog:=X.prog) (w:=X.w) (I.ok.hd hc) it lo 1 n
  refine W.item i s _ _ hg st fun v h' tk hv st' kk=>?_
  obtain⟨t,rfl⟩:=hv
  have I1:Inv X pins σ H { s with heap:=h',toks:=tk }:=I.turned (fun b o hb e=>kk b o (by simpa using hb) e) f0 f1 f3 f4 f5
  refine⟨_,rfl,x0w (s:={ s with heap:=h',toks:=tk }) (n := "range_iterator") st' rfl rfl (by decide) ⟨.int (lo+i),H,I1,⟨t,?_⟩,⟨rfl,rfl⟩,st',fun b hb=>(hf b hb).1⟩⟩
  rw[Int.mul_one]
 done:=by
  intro X hP hw hK hc i pins s σ H E I hf st hg
  subst hP hw hK
  obtain⟨f0,f1,f2,f3,f4,f5⟩:=hf it (by simp)
  exact wpAny_pyNext_range_end (I.ok.hd hc) st (by have:n≤i:=hg;omega) fun h' eb=>⟨rfl,I.turned (t':=s.toks) (fun b o hb e=>eb b o hb e) f0 f1 f3 f4 f5⟩
 self:=fun _ _ _ _ _ st h=>wpAny_pyIter_rangeiter st h
section
variable{X:Cx}{tg:Expr}
theorem y4z{pins:List (Addr×Obj)}{σ:St}{H:Hp}{s:Shared}{R:It->Hp->Prop}{E:Value->Shared->Prop}{lo hi:Int}{t u v:Tok}{tk:Nat}(I:Inv X pins σ H s)(h1:-(2 ^ 62)≤lo)(h2:lo<2 ^ 62)(h3:-(2 ^ 62)≤hi)(h4:hi<2 ^ 62)
  (q:R (Itr lo (hi - lo).toNat) H):wpAny (model X.prog X.w) X.A (pyIter (.ref s.heap.objs.size)) (PIE X pins σ tg R) E { s with heap:=s.heap.push { cls:=.type "range",data:=.fields #[.int lo t,.int hi u,.int 1 v] },toks:=tk }:=by
 refine wpAny_pyIter_range (IsRange.new ..) (small_one h1 h2 h3 h4) ?_
 have I1:Inv X pins σ H { s with heap:=s.heap.push { cls:=.type "range",data:=.fields #[.int lo t,.int hi u,.int 1 v] },toks:=tk }:=I.kept fun b o e=>Heap.get?_push_of_some _ e
 refine⟨(s.heap.push { cls:=.type "range",data:=.fields #[.int lo t,.int hi u,.int 1 v] }).objs.size,[(s.heap.push { cls:=.type "range",data:=.fields #[.int lo t,.int hi u,.int 1 v] }).objs.size],_,_,H,rfl,
  I1.kept (t':=tk) fun b o e=>Heap.get?_push_of_some _ e,y5e _ lo (hi - lo).toNat,?_,fun b hb=>?_,q⟩
 ·have e1:lo+((0:Nat):Int)*1=lo:=by simp
  have e2:(((hi - lo).toNat:Nat):Int) - ((0:Nat):Int)=Builtin.Range.rangeSize lo hi 1:=by rw[rangeSize_one];split <;> omega
  show IsRangeIter _ _ (lo+((0:Nat):Int)*1) ((((hi - lo).toNat:Nat):Int) - ((0:Nat):Int)) 1
  rw[e1,e2]
  exact Heap.get?_push_size _ rfl
 ·have e:b=(s.heap.push { cls:=.type "range",data:=.fields #[.int lo t,.int hi u,.int 1 v] }).objs.size:=by simpa using hb
  subst e
  exact I1.fpOk (aj _) (I1.hok.fresh (aj _))
def iRng1(ta:TA):TI:=fun σ H R=>ta σ H fun vs H1=>∃j:Int,vs=[.int j]∧-(2 ^ 62)≤j∧j<2 ^ 62∧R (Itr 0 j.toNat) H1
def iRng2(ta:TA):TI:=fun σ H R=>ta σ H fun vs H1=>∃i j:Int,vs=[.int i,.int j]∧(-(2 ^ 62)≤i∧i<2 ^ 62∧-(2 ^ 62)≤j∧j<2 ^ 62)∧R (Itr i (j - i).toNat) H1
theorem y9M{a:Expr}{ta:TA}{p pos:Pos}(hg:Gl X "range")(hm:X.mg "range" = none)(ha:PA X [a] ta)(hs:starEach [a] X.env=[(false,eval a X.env)]:=by rfl):PI X tg (.Call (.Name "range" p) [a] [] pos) (iRng1 ta):=by
 intro pins s σ H R I h
 refine Call_ (z4E I hg hm boot_range (PyProof.Rows.callWith_type1 (thn (ha pos pins s σ H _ I h) fun us s1 ⟨vs,H1,I1,r1,q1⟩=>?_) hs rfl))
 obtain⟨j,e,q1,q2,q⟩:=q1
 subst e
 cases r1 with
 |cons r rr=>
  cases rr
  obtain⟨t,rfl⟩:=r
  exact call_range_1 (y4z I1 (by omega) (by omega) q1 q2 (by simpa using q))
theorem y8X{a b:Expr}{ta:TA}{p pos:Pos}(hg:Gl X "range")(hm:X.mg "range" = none)(ha:PA X [a,b] ta)(hs:starEach [a,b] X.env=[(false,eval a X.env),(false,eval b X.env)]:=by rfl)(hs2:starEach [b] X.env=[(false,eval b X.env)]:=by rfl):
  PI X tg (.Call (.Name "range" p) [a,b] [] pos) (iRng2 ta):=by
 intro pins s σ H R I h
 refine Call_ (z4E I hg hm boot_range (PyProof.Rows.callWith_type1 (thn (ha pos pins s σ H _ I h) fun us s1 ⟨vs,H1,I1,r1,q1⟩=>?_) (by rw[hs,hs2]) (by rw[hs2];rfl)))
 obtain⟨i,j,e,⟨q1,q2,q3,q4⟩,q⟩:=q1
 subst e
 cases r1 with
 |cons r rr=>
  cases rr with
  |cons r' rr=>
   cases rr
   obtain⟨t,rfl⟩:=r
   obtain⟨t',rfl⟩:=r'
   exact call_range_2 (y4z I1 q1 q2 q3 q4 q)
def tFor(wi:TI)(g:TG)(tb:TS):TS:=fun D σ H=>wi σ H fun J H1=>∃W:Nat->Nat->St->Hp->Prop,(∃m,W 0 m σ H1)∧∀i m σ H,W i m σ H →
 (J.stop i H∧D.nx σ H)∨(J.go i H∧∃N:St->Hp->Prop,(∀σ' H',N σ' H'->∃m',m'<m∧W (i+1) m' σ' H')∧∀x H',J.yld i H x H'->g x σ H' fun σ2 H2=>tb { D with nx:=N,ct:=N,bk:=D.nx } σ2 H2)
def y1D(fp:List Addr)(h:Heap):List (Addr×Obj):=fp.filterMap fun b=>(h.get? b).map fun o=>(b,o)
theorem z3T{fp:List Addr}{h:Heap}{b:Addr}{o:Obj}(hb:b∈fp)(e:h.get? b=some o):(b,o)∈y1D fp h:=eS.mpr ⟨b,hb,by rw[e];rfl⟩
theorem y7p{fp:List Addr}{h:Heap}{p:Addr×Obj}(hp:p∈y1D fp h):p.1∈fp∧h.get? p.1=some p.2:=by
 obtain⟨b,hb,e⟩:=eS.mp hp
 cases q:h.get? b with
 |none=>rw[q]at e;cases e
 |some o=>
  rw[q]at e
  have e':(b,o)=p:=Option.some.inj e
  subst e'
  exact⟨hb,q⟩
theorem Inv.pinned{pins:List (Addr×Obj)}{σ:St}{H:Hp}{s:Shared}{fp:List Addr}(I:Inv X pins σ H s)(hf:∀b∈fp,y0O X pins H b)(ho:∀b∈fp,∃o,s.heap.get? b=some o∧∀v,o.data≠.cell v):Inv X (pins++y1D fp s.heap) σ H s:=
 I.pins_of fun p hp=>(ar.mp hp).elim (fun z=>I.pin p (aQ _ z)) fun z=>by
  obtain⟨hb,e⟩:=y7p z
  obtain⟨f0,f1,f2,_⟩:=hf p.1 hb
  obtain⟨o,e',d⟩:=ho p.1 hb
  rw[e]at e';cases e'
  exact⟨e,f0,f1,f2,d⟩
theorem Inv.unpinned{pins pl:List (Addr×Obj)}{σ:St}{H:Hp}{s:Shared}(I:Inv X (pins++pl) σ H s):Inv X pins σ H s:=I.pins_of fun p hp=>I.pin p (aQ _ (bX _ hp))
theorem x2P{iter:Expr}{body:List Stmt}{wi:TI}{g:TG}{tb:TS}{pos:Pos}(hp:PassesOwn (model X.prog X.w) X.A X.env X.xe)(hc:X.calm=true)(hi:PI X tg iter wi)(hg:PG X tg g)(hb:PSs X body tb)
  (hs:∀x,foldedSetIterable iter X.env x=pure x:=by intro _;rfl):PS X (.For tg iter body [] pos) (tFor wi g tb):=by
 intro pins s σ H D I h
 refine wpAny_For (thn (hi pins s σ H _ I h) fun v s1 h1=>thn h1 fun itv s2 h2=>?_) hs
 obtain⟨it,fp,tn,J,H2,e,I2,T,st2,f2,W,⟨m0,w0⟩,turn⟩:=h2
 subst e
 have stat:∀{H':Hp},(∀b∈fp,H' b=none)->∀b∈fp,y0O X pins H' b:=fun hn b hb=>⟨hn b hb,(f2 b hb).2⟩
 refine codeAny_forLoop_any (fun n s'=>∃i σ' H',Inv X pins σ' H' s'∧tn i s'.heap∧(∀b∈fp,H' b=none)∧W i n σ' H') ?_ m0 ⟨0,σ,H2,I2,st2,fun b hb=>(f2 b hb).1,w0⟩
 rintro n s3 ⟨i,σ3,H3,I3,st3,fr3,w3⟩
 rcases turn i n σ3 H3 w3 with⟨stop,qn⟩ | ⟨go,N,hN,step⟩
 ·refine wpAny_passesOwn hp (thn (T.done X rfl rfl rfl hc i pins s3 σ3 H3 X.xe I3 (stat fr3) st3 stop) fun r s4 ⟨hr,I4⟩=>?_)
  subst hr
  exact wpAny_execs_nil ⟨σ3,H3,I4,qn⟩
 ·refine wpAny_passesOwn hp (thn (T.item X rfl rfl rfl hc i pins s3 σ3 H3 X.xe I3 (stat fr3) st3 go) fun r s4 ⟨u,hr,h4⟩=>?_)
  subst hr
  refine wpAny_passesOwn hp (thn h4 fun _ s5 ⟨x,H5,I5,r5,y5,st5,fr5⟩=>?_)
  have I5':=I5.pinned (stat fr5) (T.obj _ _ st5)
  refine wpAny_passesOwn hp (thn (hg _ s5 σ3 H5 x u _ I5' r5 (step x H5 y5)) fun _ s6 ⟨σ6,H6,I6,q6⟩=>?_)
  refine wpAny_passesOwn hp (thn (hb _ s6 σ6 H6 _ I6 q6) fun f s7 q7=>?_)
  have again:∀{σ7:St} {H7:Hp},Inv X (pins++y1D fp s5.heap) σ7 H7 s7->N σ7 H7->∃m,m<n∧∃i σ' H',Inv X pins σ' H' s7∧tn i s7.heap∧(∀b∈fp,H' b=none)∧W i m σ' H':=fun {σ7 H7} I7 n7=>by
   obtain⟨m',hm,w7⟩:=hN σ7 H7 n7
   refine⟨m',hm,i+1,σ7,H7,I7.unpinned,T.keep _ _ _ st5 fun b hb o e=>(I7.pin (b,o) (aQ _ (aQ _ (z3T hb e)))).1,fun b hb=>?_,w7⟩
   obtain⟨o,e,d⟩:=T.obj _ _ st5 b hb
   exact(I7.pin (b,o) (aQ _ (aQ _ (z3T hb e)))).2.1
  cases f with
  |next=>obtain⟨σ7,H7,I7,n7⟩:=q7;exact again I7 n7
  |cont=>obtain⟨σ7,H7,I7,n7⟩:=q7;exact again I7 n7
  |brk=>obtain⟨σ7,H7,I7,q7⟩:=q7;exact⟨σ7,H7,I7.unpinned,q7⟩
  |ret v=>obtain⟨x7,σ7,H7,I7,r7,q7⟩:=q7;exact⟨x7,σ7,H7,I7.unpinned,r7,q7⟩
end
theorem z9Q{K:aa}{a:Addr}{xs:List V}{g:TG}{tb:TS}{D:Ends}{σ:St}{H:Hp}(Pv:Nat->St->Hp->Prop)(h0:Pv 0 σ H)(hl:∀i σ H,i≤xs.length->Pv i σ H->SqL K H a xs)
  (hs:∀i x σ H,xs[i]? = some x->Pv i σ H->g x σ H fun σ2 H2=>tb { D with nx:=Pv (i+1),ct:=Pv (i+1),bk:=D.nx } σ2 H2) (hd:∀σ H,Pv xs.length σ H->D.nx σ H):
  ∃W:Nat->Nat->St->Hp->Prop,(∃m,W 0 m σ H)∧∀i m σ H,W i m σ H →
   ((Itl K a).stop i H∧D.nx σ H)∨((Itl K a).go i H∧∃N:St->Hp->Prop,(∀σ' H',N σ' H'->∃m',m'<m∧W (i+1) m' σ' H')∧∀x H',(Itl K a).yld i H x H'->g x σ H' fun σ2 H2=>tb { D with nx:=N,ct:=N,bk:=D.nx } σ2 H2):=by
 refine⟨fun i m σ H=>m=xs.length - i∧i≤xs.length∧Pv i σ H,⟨xs.length,by simp,bJ _,h0⟩,?_⟩
 rintro i m σ H ⟨rfl,hi,p⟩
 have q:=hl i σ H hi p
 by_cases hlt:i<xs.length
 ·refine .inr ⟨⟨xs,xs[i],q,by simp[hlt]⟩,Pv (i+1),fun σ' H' p'=>⟨xs.length - (i+1),by omega,rfl,hlt,p'⟩,fun x H' y=>?_⟩
  obtain⟨e,y⟩:=y
  subst e
  exact hs i x σ _ (y xs q) p
 ·have e:i=xs.length:=by omega
  subst e
  exact .inl ⟨⟨xs,q,aj _⟩,hd σ H p⟩
abbrev R2:=V->V->Hp->VK->Prop
def OpR(X:Cx)(f:Value->Value->Sem Value)(r:R2):Prop:=
 ∀(pins:List (Addr×Obj)) (s:Shared) (σ:St) (H:Hp) (x y:V) (v u:Value) (Q:VK),Inv X pins σ H s->RelV x v->RelV y u->r x y H Q →
  wpAny (model X.prog X.w) X.A (f v u) (EP X pins σ Q) X.xe s
def UnR(X:Cx)(f:Value->Sem Value)(r:V->Hp->VK->Prop):Prop:=
 ∀(pins:List (Addr×Obj)) (s:Shared) (σ:St) (H:Hp) (x:V) (v:Value) (Q:VK),Inv X pins σ H s->RelV x v->r x H Q →
  wpAny (model X.prog X.w) X.A (f v) (EP X pins σ Q) X.xe s
def z4a(X:Cx)(f:Value)(r:List V->Hp->VK->Prop):Prop:=
 ∀(pins:List (Addr×Obj)) (s:Shared) (σ:St) (H:Hp) (xs:List V) (us:List Value) (Q:VK),Inv X pins σ H s->Vals xs us->r xs H Q →
  wpAny (model X.prog X.w) X.A (call f us) (EP X pins σ Q) X.xe s
def TruR(X:Cx)(r:V->Hp->(Bool->Hp->Prop)->Prop):Prop:=
 ∀(pins:List (Addr×Obj)) (s:Shared) (σ:St) (H:Hp) (x:V) (v:Value) (Q:Bool->Hp->Prop),Inv X pins σ H s->RelV x v->r x H Q →
  wpAny (model X.prog X.w) X.A (truthy v) (TP X pins σ Q) X.xe s
def tOp(r:R2)(ta tb:TE):TE:=fun σ H Q=>ta σ H fun x H1=>tb σ H1 fun y H2=>r x y H2 Q
def tUn(r:V->Hp->VK->Prop)(ta:TE):TE:=fun σ H Q=>ta σ H fun x H1=>r x H1 Q
def rI(C:Int->Int->Prop)(g:Int->Int->V):R2:=fun x y H Q=>∃i j,x = .int i∧y = .int j∧C i j∧Q (g i j) H
def rI0(g:Int->Int->V):R2:=fun x y H Q=>∃i j,x = .int i∧y = .int j∧Q (g i j) H
def rU(g:Int->V):V->Hp->VK->Prop:=fun x H Q=>∃i,x = .int i∧Q (g i) H
section
variable{X:Cx}{a b:Expr}{ta tb:TE}{pos:Pos}
theorem binT(ha:PE X a ta)(hb:PE X b tb){pins:List (Addr×Obj)}{s:Shared}{σ:St}{H:Hp}{R:V->V->Hp->Prop}(I:Inv X pins σ H s)
  (h:ta σ H fun x H1=>tb σ H1 fun y H2=>R x y H2) {Q:Value->Shared->Prop} {f:Value->Value->Sem Value}
  (hf:∀v u s2 x y H2,Inv X pins σ H2 s2->RelV x v->RelV y u->R x y H2->wpAny (model X.prog X.w) X.A (f v u) Q X.xe s2):
  wpAny (model X.prog X.w) X.A (eval a X.env) (fun v s₁=>wpAny (model X.prog X.w) X.A (eval b X.env) (fun u s₂=>wpAny (model X.prog X.w) X.A (f v u) Q X.xe s₂) X.xe s₁) X.xe s:=by
 refine thn (ha pins s σ H _ I h) fun v s1 ⟨x,H1,I1,r1,q1⟩=>?_
 refine thn (hb pins s1 σ H1 _ I1 q1) fun u s2 ⟨y,H2,I2,r2,q2⟩=>?_
 exact hf v u s2 x y H2 I2 r1 r2 q2
theorem y5G{op:Operator}{r:R2}(ho:OpR X (fq op) r)(ha:PE X a ta)(hb:PE X b tb):PE X (.BinOp a op b pos) (tOp r ta tb):=by
 intro pins s σ H Q I h
 exact wpAny_BinOp (binT ha hb I h fun v u s2 x y H2 I2 rx ry q=>ho pins s2 σ H2 x y v u Q I2 rx ry q)
theorem pe_un{op:UnaryOp}{r:V->Hp->VK->Prop}(ho:UnR X (unaryOp op) r)(ha:PE X a ta):PE X (.UnaryOp op a pos) (tUn r ta):=by
 intro pins s σ H Q I h
 exact UnaryOp_ (thn (ha pins s σ H _ I h) fun v s1 ⟨x,H1,I1,r1,q1⟩=>ho pins s1 σ H1 x v Q I1 r1 q1)
theorem opI{f:Value->Value->Sem Value}{C:Int->Int->Prop}{g:Int->Int->Int}
  (rule:∀(i j:Int) (t u:Tok) (s:Shared) (Q:Value->Shared->Prop) (E:Value->Shared->Prop),C i j->Q (.int (g i j) s.toks) { s with toks:=s.toks+1 }->wpAny (model X.prog X.w) X.A (f (.int i t) (.int j u)) Q E s):
  OpR X f (rI C fun i j=>.int (g i j)):=by
 intro pins s σ H x y v u Q I rx ry h
 obtain⟨i,j,rfl,rfl,hc,q⟩:=h
 obtain⟨t,rfl⟩:=rx
 obtain⟨t',rfl⟩:=ry
 exact rule i j t t' s _ _ hc ⟨.int (g i j),H,I.tok _,⟨_,rfl⟩,q⟩
theorem opI0{f:Value->Value->Sem Value}{g:Int->Int->Int}
  (rule:∀(i j:Int) (t u:Tok) (s:Shared) (Q:Value->Shared->Prop) (E:Value->Shared->Prop),Q (.int (g i j) s.toks) { s with toks:=s.toks+1 }->wpAny (model X.prog X.w) X.A (f (.int i t) (.int j u)) Q E s):
  OpR X f (rI0 fun i j=>.int (g i j)):=by
 intro pins s σ H x y v u Q I rx ry h
 obtain⟨i,j,rfl,rfl,q⟩:=h
 obtain⟨t,rfl⟩:=rx
 obtain⟨t',rfl⟩:=ry
 exact rule i j t t' s _ _ ⟨.int (g i j),H,I.tok _,⟨_,rfl⟩,q⟩
theorem opB0{f:Value->Value->Sem Value}{g:Int->Int->Bool}
  (rule:∀(i j:Int) (t u:Tok) (s:Shared) (Q:Value->Shared->Prop) (E:Value->Shared->Prop),Q (.bool (g i j)) s->wpAny (model X.prog X.w) X.A (f (.int i t) (.int j u)) Q E s):
  OpR X f (rI0 fun i j=>.bl (g i j)):=by
 intro pins s σ H x y v u Q I rx ry h
 obtain⟨i,j,rfl,rfl,q⟩:=h
 obtain⟨t,rfl⟩:=rx
 obtain⟨t',rfl⟩:=ry
 exact rule i j t t' s _ _ ⟨.bl (g i j),H,I,rfl,q⟩
def CDiv(i j:Int):Prop:=0<j∧j<1073741824
def x2b(i j:Int):Prop:=j≠0∧j.natAbs<1073741824
def CPow(i j:Int):Prop:=0≤j∧j≤1000000∧i.natAbs<2 ^ 64
def CMul(i j:Int):Prop:=(-(2 ^ 64)<i∧i<2 ^ 64)∨(-(2 ^ 64)<j∧j<2 ^ 64)
theorem CMul.ok{i j:Int}(h:CMul i j):IntMulOk i j:=by
 rcases h with⟨h1,h2⟩ | ⟨h1,h2⟩
 ·exact .of_left (intBits_le_64 h1 h2)
 ·exact .of_right (intBits_le_64 h1 h2)
theorem op_add:OpR X (fq .Add) (rI0 fun i j=>.int (i+j)):=opI0 fun _ _ _ _ _ _ _ q=>add_int q
theorem op_sub:OpR X (fq .Sub) (rI0 fun i j=>.int (i - j)):=opI0 fun _ _ _ _ _ _ _ q=>sub_int q
theorem op_mul:OpR X (fq .Mult) (rI CMul fun i j=>.int (i*j)):=opI fun _ _ _ _ _ _ _ hc q=>mul_int q hc.ok
theorem op_fdiv:OpR X (fq .FloorDiv) (rI CDiv fun i j=>.int (i / j)):=opI fun i j _ _ _ _ _ hc q=>by
 have h1:(0:Int)<j:=hc.1
 have h2:j<1073741824:=hc.2
 exact floordiv_int (by omega) (by rw[Int.fdiv_eq_ediv_of_nonneg i (by omega)];exact q) (.inl (PyProof.noPylong_small (by omega)))
theorem x0z:OpR X (fq .FloorDiv) (rI x2b fun i j=>.int (i.fdiv j)):=opI fun _ _ _ _ _ _ _ hc q=>floordiv_int hc.1 q (.inl (PyProof.noPylong_small hc.2))
theorem op_mod:OpR X (fq .Mod) (rI (fun _ j=>0<j) fun i j=>.int (i % j)):=opI fun i j _ _ _ _ _ hc q=>by
 have h1:(0:Int)<j:=hc
 exact mod_int' (by omega) (by rw[Int.fmod_eq_emod_of_nonneg i (by omega)];exact q)
theorem op_pow:OpR X (fq .Pow) (rI CPow fun i j=>.int (i ^ j.toNat)):=opI fun _ _ _ _ _ _ _ hc q=>pow_int_small hc.1 hc.2.1 hc.2.2 q
theorem unI{f:Value->Sem Value}{g:Int->Int}
  (rule:∀(i:Int) (t:Tok) (s:Shared) (Q:Value->Shared->Prop) (E:Value->Shared->Prop),Q (.int (g i) s.toks) { s with toks:=s.toks+1 }->wpAny (model X.prog X.w) X.A (f (.int i t)) Q E s):
  UnR X f (rU fun i=>.int (g i)):=by
 intro pins s σ H x v Q I rx h
 obtain⟨i,rfl,q⟩:=h
 obtain⟨t,rfl⟩:=rx
 exact rule i t s _ _ ⟨.int (g i),H,I.tok _,⟨_,rfl⟩,q⟩
theorem un_neg:UnR X (unaryOp .USub) (rU fun i=>.int (-i)):=unI fun _ _ _ _ _ q=>neg_int q
end
section
variable{X:Cx}{a b c:Expr}{ta tb tc:TE}{pos:Pos}
theorem op_lt:OpR X (fb .Lt) (rI0 fun i j=>.bl (decide (i<j))):=opB0 fun _ _ _ _ _ _ _ q=>lt_int q
theorem op_le:OpR X (fb .LtE) (rI0 fun i j=>.bl (decide (i≤j))):=opB0 fun _ _ _ _ _ _ _ q=>le_int q
theorem op_gt:OpR X (fb .Gt) (rI0 fun i j=>.bl (decide (j<i))):=opB0 fun _ _ _ _ _ _ _ q=>gt_int q
theorem z5R(b:Expr){op:CmpOp}(h:op≠.In:=by decide)(h2:op≠.NotIn:=by decide):eZ op b=false:=by
 have e1:(op==CmpOp.In)=false:=by cases op <;> first | rfl | exact absurd rfl h
 have e2:(op==CmpOp.NotIn)=false:=by cases op <;> first | rfl | exact absurd rfl h2
 cases b <;> simp[eZ,e1,e2]
theorem pe_cmpR{op:CmpOp}{r:R2}(ho:OpR X (fb op) r)(ha:PE X a ta)(hb:PE X b tb)(hm:eZ op b=false):PE X (.Compare a [op] [b] pos) (tOp r ta tb):=by
 intro pins s σ H Q I h
 exact wpAny_Compare1 (binT ha hb I h fun v u s2 x y H2 I2 rx ry q=>ho pins s2 σ H2 x y v u Q I2 rx ry q) hm
def tTest(t:TE):TT:=fun σ H Q=>t σ H fun x H'=>∃k,x = .bl k∧Q k H'
theorem pt_cmpR{op:CmpOp}{r:R2}(ho:OpR X (fb op) r)(ha:PE X a ta)(hb:PE X b tb)(hm:eZ op b=false):PT X (.Compare a [op] [b] pos) (tTest (tOp r ta tb)):=by
 intro pins s σ H Q I h
 refine wpAny_isTrue_Compare1 (thn (ha pins s σ H _ I h) fun v s1 ⟨x,H1,I1,r1,q1⟩=>thn (hb pins s1 σ H1 _ I1 q1) fun u s2 ⟨y,H2,I2,r2,q2⟩=>
  thn (ho pins s2 σ H2 x y v u _ I2 r1 r2 q2) fun c s3 ⟨z,H3,I3,r3,k,e,q3⟩=>?_) hm
 subst e
 cases r3
 exact wpAny_truthy_bool ⟨H3,I3,q3⟩
def x2E(r r':R2)(ta tb tc:TE):TE:=fun σ H Q=>ta σ H fun x H1=>tb σ H1 fun y H2=>r x y H2 fun z H3=>∃k,z = .bl k ∧
 (if k=true then tc σ H3 fun w' H4=>r' y w' H4 Q else Q (.bl false) H3)
theorem x0D{op op':CmpOp}{r r':R2}(ho:OpR X (fb op) r)(ho':OpR X (fb op') r')(ha:PE X a ta)(hb:PE X b tb)(hc:PE X c tc)
  (hm:lastMarks [op,op'] [b,c]=false:=by with_unfolding_all rfl):PE X (.Compare a [op,op'] [b,c] pos) (x2E r r' ta tb tc):=by
 intro pins s σ H Q I h
 refine Compare_chain (thn (ha pins s σ H _ I h) fun v s1 ⟨x,H1,I1,r1,q1⟩=>chain_link (thn (hb pins s1 σ H1 _ I1 q1) fun u s2 ⟨y,H2,I2,r2,q2⟩=>
  thn (ho pins s2 σ H2 x y v u _ I2 r1 r2 q2) fun d s3 ⟨z,H3,I3,r3,k,e,q3⟩=>?_)) hm
 subst e
 cases r3
 refine wpAny_truthy_bool ?_
 cases k with
 |false=>exact ite_ff ⟨.bl false,H3,I3,rfl,q3⟩
 |true=>exact ite_tt (chain_last (thn (hc pins s3 σ H3 _ I3 q3) fun w' s4 ⟨z',H4,I4,r4,q4⟩=>ho' pins s4 σ H4 y z' u w' Q I4 r2 r4 q4))
def TruV(K:aa)(x:V)(H:Hp)(k:Bool):Prop:=
 match x with
 |.non=>k=false
 |.bl b=>k=b
 |.int i=>k=(i != 0)
 |.str y=>y.length≤sizeLine∧k=((y.length:Int) != 0)
 |.byt y=>y.size≤sizeLine∧k=((y.size:Int) != 0)
 |.ref p=>(∃xs,SqL K H p xs∧k = !xs.isEmpty)∨(∃xs,SqT K H p xs∧k = !xs.isEmpty)∨∃kvs,H p=some (.dK kvs)∧k = !kvs.isEmpty
 |_=>False
theorem y4O{κ:Type}{kvs:List (κ×V)}{vs:List (κ×Value)}(r:KV kvs vs):(!vs.isEmpty) = !kvs.isEmpty:=by
 cases r <;> rfl
theorem z8b{xs:List V}{its:List Value}(r:Vals xs its):(!its.toArray.isEmpty) = !xs.isEmpty:=by
 cases r <;> simp
theorem z8n:(sizeLine:Nat)<2 ^ 63:=by rw[sizeLine_eq];decide
theorem tru_ok:TruR X (fun x H Q=>∃k,TruV X.K x H k∧Q k H):=by
 intro pins s σ H x v Q I rx h
 obtain⟨k,e,q⟩:=h
 have hl:=z8n
 have hs:sizeLine=16777216:=sizeLine_eq
 cases x with
 |non=>
  cases rx
  have e':k=false:=e
  subst e'
  exact truthy_none ⟨H,I,q⟩
 |bl b=>
  cases rx
  have e':k=b:=e
  subst e'
  exact wpAny_truthy_bool ⟨H,I,q⟩
 |int i=>
  obtain⟨t,rfl⟩:=rx
  have e':k=(i != 0):=e
  subst e'
  exact PySem.P.truthy_int ⟨H,I,q⟩
 |str y=>
  obtain⟨t,rfl⟩:=rx
  obtain⟨hy,e'⟩:y.length≤sizeLine∧k=((y.length:Int) != 0):=e
  subst e'
  exact PySem.P.truthy_str (by omega) ⟨H,I.tok _,q⟩
 |byt y=>
  obtain⟨t,rfl⟩:=rx
  obtain⟨hy,e'⟩:y.size≤sizeLine∧k=((y.size:Int) != 0):=e
  subst e'
  exact PySem.W.truthy_bytes (by omega) ⟨H,I.tok _,q⟩
 |ref p=>
  cases rx
  have e':(∃xs,SqL X.K H p xs∧k = !xs.isEmpty)∨(∃xs,SqT X.K H p xs∧k = !xs.isEmpty)∨∃kvs,H p=some (.dK kvs)∧k = !kvs.isEmpty:=e
  rcases e' with⟨xs,hx,e'⟩ | ⟨xs,hx,e'⟩ | ⟨kvs,hx,e'⟩
  ·subst e'
   obtain⟨its,r,pl,hz⟩:=I.list hx
   have hlen:=r.length
   exact wpAny_truthy_list pl.isList (by simp only[au];omega) ⟨H,I.tok _,by rw[z8b r];exact q⟩
  ·subst e'
   obtain⟨its,r,pl,hz⟩:=I.tuple hx
   have hlen:=r.length
   exact truthy_tuple pl (by simp only[au];omega) ⟨H,I.tok _,by rw[z8b r];exact q⟩
  ·subst e'
   obtain⟨hz,hS,vs,r,m⟩:kvs.length≤sizeLine∧(p==sysModules)=false∧∃vs,KV kvs vs∧s.heap.DictOf (z1b X.prog X.w) p vs:=I.hok p _ hx
   have hlen:kvs.length=vs.length:=Paired.length r
   exact wpAny_truthy_dict hS m (by omega) ⟨H,I.tok _,by rw[y4O r];exact q⟩
 |_=>exact(show False from e).elim
theorem x1c(ha:PE X a ta)(he:∀whole,isTrue a X.env whole=(do let v ←whole;standAt a.pos;holding [v] (truthy v))):
  PT X a (fun σ H Q=>ta σ H fun x H'=>∃k,TruV X.K x H' k∧Q k H'):=by
 intro pins s σ H Q I h
 exact isTrue_plain (thn (ha pins s σ H _ I h) fun v s1 ⟨x,H1,I1,r1,q1⟩=>tru_ok pins s1 σ H1 x v Q I1 r1 q1) (he _)
theorem z7v{x:V}{us:List Value}(r:Vals [x] us):∃u,us=[u]∧RelV x u:=by
 cases r with
 |cons r1 r2=>cases r2;exact⟨_,rfl,r1⟩
theorem vals2{x y:V}{us:List Value}(r:Vals [x,y] us):∃u w',us=[u,w']∧RelV x u∧RelV y w':=by
 cases r with
 |cons r1 r2=>
  cases r2 with
  |cons r3 r4=>cases r4;exact⟨_,_,rfl,r1,r3⟩
theorem x1E:z4a X (.builtin "abs") (fun xs H Q=>∃i,xs=[.int i]∧Q (.int (if i<0 then -i else i)) H):=by
 intro pins s σ H xs us Q I r h
 obtain⟨i,rfl,q⟩:=h
 obtain⟨u,rfl,t,rfl⟩:=z7v r
 exact call_abs_int fun u tk=>⟨.int (if i<0 then -i else i),H,I.tok _,⟨_,rfl⟩,q⟩
def LenV(K:aa)(x:V)(H:Hp)(n:Nat):Prop:=
 match x with
 |.str y=>y.length≤sizeLine∧n=y.length
 |.byt y=>y.size≤sizeLine∧n=y.size
 |.ref p=>(∃xs,SqL K H p xs∧n=xs.length)∨∃xs,SqT K H p xs∧n=xs.length
 |_=>False
theorem x0G:z4a X (.builtin "len") (fun xs H Q=>∃x n,xs=[x]∧LenV X.K x H n∧Q (.int n) H):=by
 intro pins s σ H xs us Q I r h
 obtain⟨x,n,rfl,e,q⟩:=h
 obtain⟨u,rfl,rx⟩:=z7v r
 have hl:=z8n
 have hs:sizeLine=16777216:=sizeLine_eq
 cases x with
 |str y=>
  obtain⟨t,rfl⟩:=rx
  obtain⟨hy,e'⟩:y.length≤sizeLine∧n=y.length:=e
  subst e'
  exact len_str (by omega) ⟨.int _,H,I.tok _,⟨_,rfl⟩,q⟩
 |byt y=>
  obtain⟨t,rfl⟩:=rx
  obtain⟨hy,e'⟩:y.size≤sizeLine∧n=y.size:=e
  subst e'
  exact PySem.W.len_bytes (by omega) ⟨.int _,H,I.tok _,⟨_,rfl⟩,q⟩
 |ref p=>
  cases rx
  have e':(∃xs,SqL X.K H p xs∧n=xs.length)∨∃xs,SqT X.K H p xs∧n=xs.length:=e
  rcases e' with⟨xs,hx,e'⟩ | ⟨xs,hx,e'⟩
  ·subst e'
   obtain⟨its,r',pl,hz⟩:=I.list hx
   have hlen:=r'.length
   exact Calls.call_len_list pl.isList (by simp only[au];omega) ⟨.int xs.length,H,I.tok _,⟨_,by simp only[au];rw[hlen]⟩,q⟩
  ·subst e'
   obtain⟨its,r',pl,hz⟩:=I.tuple hx
   have hlen:=r'.length
   exact len_tuple pl (by simp only[au];omega) ⟨.int xs.length,H,I.tok _,⟨_,by simp only[au];rw[hlen]⟩,q⟩
 |_=>exact(show False from e).elim
end
structure ObjM(h:Heap)(x dx C:Addr)(mA:Str->Option Value):Prop where
 obj:h.get? x=some (df C dx)
 ns:h.Ns1 dx mA
 ne:dx≠x
theorem y7y{h:Heap}{dx:Addr}{mA:Str->Option Value}(n:h.Ns1 dx mA):∃od,h.get? dx=some od∧∀name,dA name od=some (mA name):=by
 obtain⟨o,es,ep,ho,hd,hk,_,hm⟩:=n
 refine⟨o,ho,fun name=>?_⟩
 have e:=hm name
 unfold nsFind findBy at e
 rw[←Array.find?_toList]at e
 unfold dA
 rw[hd]
 dsimp only
 split
 ·rename_i y q
  rw[q]at e
  exact congrArg some e
 ·rename_i q
  rw[q]at e
  have a:es.toList.any (·.refKey)=false:=by
   rw[bU]
   intro y hy
   obtain⟨z,t,hkey⟩:=hk y (Array.mem_toList_iff.mp hy)
   simp[DictEntry.refKey,hkey]
  have a':¬ es.toList.any (·.refKey)=true:=by rw[a];exact ak
  rw[if_neg a']
  exact congrArg some e
theorem ObjM.look{h:Heap}{x dx C:Addr}{mA:Str->Option Value}(I:ObjM h x dx C mA):∃od,cU h x (df C dx) C (some od)∧∀name,dA name od=some (mA name):=
 let⟨od,ho,hl⟩:=y7y I.ns
 ⟨od,⟨I.obj,rfl,rfl,ho⟩,hl⟩
section
end
section
variable{P:dw}{w:eX}{H:Hp}{h:Heap}{a C dx:Addr}{fs:List (Str×V)}
theorem ins_get(hok:HOk P w H h)(e:H a=some (.ins C dx fs)):∃mA,ObjM h a dx C mA∧(∀f,RelO (fs.lookup f) (mA f))∧PySem.Within mA (fs.map (·.1))∧fs.length≤1000∧H dx=some (.own a):=by
 obtain⟨d,z,ne,ob,mA,n,r,q⟩:=(show ObjOk P w H h a (.ins C dx fs) from hok a _ e)
 exact⟨mA,⟨ob,n,ne⟩,r,q,z,d⟩
end
structure Cls(K:aa)(C:Addr):Prop where
 pg:c6 K C Str.empty=true
 hd:eF K C=true
 po:eE K C=true
 sa:aV K (.ref C) "__setattr__" = some (some (.builtin "object.__setattr__"))
theorem Cls.get{K:aa}{C:Addr}(c:Cls K C)(f:Str):c6 K C f=true:=c.pg
def NoAttr(K:aa)(C:Addr)(f:Str):Prop:=aV K (.ref C) f=some none
structure Con(K:aa)(C:Addr)(f:Str)(v:V)(u:Value):Prop where
 at_:aV K (.ref C) f=some (some u)
 rel:RelV v u
 get:bQ K u "__get__" = some none
 cp:PySem.W.copiedNames.contains f=false
structure Meth(K:aa)(C:Addr)(m:Str)(f:Addr):Prop where
 at_:aV K (.ref C) m=some (some (.ref f))
 fn:PySem.W.isFn K (.ref f)=true
 kp:bE K (.ref f)=true
section
end
section
end
section
variable{H:Hp}
inductive TyOf(K:aa)(H:Hp):V->Value->Prop where
 |non:TyOf K H .non (.type "NoneType")
 |bl (x:Bool):TyOf K H (.bl x) (.type "bool")
 |int (i:Int):TyOf K H (.int i) (.type "int")
 |str (x:Str):TyOf K H (.str x) (.type "str")
 |flt (x:UInt64):TyOf K H (.flt x) (.type "float")
 |lst {a:Addr} {xs:List V} (e:H a=some (.lst xs)):TyOf K H (.ref a) (.type "list")
 |frz {a:Addr} {o:Obj} {xs:List V} (e:H a=some (.frz o (.lst xs))):TyOf K H (.ref a) (.type "list")
 |tup {a:Addr} {xs:List V} (e:H a=some (.tup xs)):TyOf K H (.ref a) (.type "tuple")
 |dK {a:Addr} {kvs:List (Key×V)} (e:H a=some (.dK kvs)):TyOf K H (.ref a) (.type "dict")
 |dT {a:Addr} {kvs:List (List Key×V)} (e:H a=some (.dT kvs)):TyOf K H (.ref a) (.type "dict")
 |ins {a C dx:Addr} {fs:List (Str×V)} (e:H a=some (.ins C dx fs)) (cl:Cls K C) (ha:aV K (.ref C) "__class__" = some (some (.builtin "object.__class__")))
   (hn:bQ K (.builtin "object.__class__") "__get__" = some (some (.builtin "getset_descriptor.__get__"))) (htk:cw K (.builtin "object.__class__")=some true)
   (hm:bG K C (.type "object")=some true):TyOf K H (.ref a) (.ref C)
end
structure Room(k:Nat)(A:Around):Prop where
 hd:A.handled=none
 dp:A.depth+3*k+5<recursionLimit
 un:A.units+16*k+200<fw
theorem Room.mono{j k:Nat}{A:Around}(r:Room k A)(h:j≤k):Room j A:=⟨r.hd,by have:=r.dp;omega,by have:=r.un;omega⟩
theorem Room.deeper{k:Nat}{A:Around}(r:Room (k+1) A)(env:Env):Room k (A.deeper env):=
 ⟨r.hd,by have:=r.dp;show A.depth+1+3*k+5<_;omega,by have:=r.un;show A.units+3+16*k+200<_;omega⟩
theorem Room.depth{k:Nat}{A:Around}(r:Room k A):A.depth<recursionLimit:=by have:=r.dp;omega
theorem Room.units{k:Nat}{A:Around}(r:Room k A):A.units+64<fw:=by have:=r.un;omega
def tNil:TA:=fun _ H Q=>Q [] H
def tCons(ta:TE)(tr:TA):TA:=fun σ H Q=>ta σ H fun x H1=>tr σ H1 fun xs H2=>Q (x::xs) H2
section
variable{X:Cx}{e:Expr}{es:List Expr}{te:TE}{t:TA}{pos:Pos}
theorem pa_nil:PA X [] tNil:=fun _ _ _ _ H Q I h=>Calls.spliced_nil ⟨[],H,I,.nil,h⟩
theorem z0S(ha:PE X e te)(hr:PA X es t)(hs:starEach (e::es) X.env=(false,eval e X.env)::starEach es X.env:=by rfl):PA X (e::es) (tCons te t):=by
 intro pos pins s σ H Q I h
 rw[hs]
 show wpAny _ _ (spliced ((false,eval e X.env)::e9 pos (starEach es X.env))) _ _ s
 refine Calls.spliced_cons (thn (ha pins s σ H _ I h) fun u s1 ⟨x,H1,I1,r1,q1⟩=>?_)
 exact thn (hr pos pins s1 σ H1 _ I1 q1) fun us s2 ⟨xs,H2,I2,r2,q2⟩=>⟨x::xs,H2,I2,.cons r1 r2,q2⟩
def tTup(t:TA):TE:=fun σ H Q=>t σ H fun xs H1=>xs.length≤sizeLine∧∀p,H1 p=none->Q (.ref p) (upd H1 p (.tup xs))
def tLst(t:TA):TE:=fun σ H Q=>t σ H fun xs H1=>xs.length≤sizeLine∧∀p,H1 p=none->Q (.ref p) (upd H1 p (.lst xs))
theorem x2k{x1}(h:PA X es t):PE X (.Tuple es x1 pos) (tTup t):=by
 intro pins s σ H Q I hq
 refine wpAny_Tuple_spliced (thn (h pos pins s σ H _ I hq) fun us s1 ⟨xs,H1,I1,r,z,q⟩=>⟨by rw[←r.length];exact z,?_⟩)
 have hf:H1 s1.heap.objs.size=none:=I1.hok.fresh (aj _)
 refine⟨.ref s1.heap.objs.size,upd H1 s1.heap.objs.size (.tup xs),I1.laid (t':=s1.toks) (fun b u e=>Heap.get?_push_of_some _ e) (aj _) ?_,rfl,q _ hf⟩
 exact⟨z,us,r,TupN.new _ _⟩
theorem y3D(h:PA X es t):PE X (.List es pos) (tLst t):=by
 intro pins s σ H Q I hq
 refine wpAny_List_spliced (thn (h pos pins s σ H _ I hq) fun us s1 ⟨xs,H1,I1,r,z,q⟩=>⟨by rw[←r.length];exact z,?_⟩)
 have hf:H1 s1.heap.objs.size=none:=I1.hok.fresh (aj _)
 refine⟨.ref s1.heap.objs.size,upd H1 s1.heap.objs.size (.lst xs),I1.laid (t':=s1.toks) (fun b u e=>Heap.get?_push_of_some _ e) (aj _) ?_,rfl,q _ hf⟩
 exact⟨z,us,0,r,Heap.get?_push_size _ rfl⟩
end
abbrev Sp:=List V->Hp->VK->XK->Prop
abbrev CXT:=List Env->Hp->Shared->XK->Value->Shared->Prop
structure Env0(P:dw)(w:eX)(K:aa)(mg:Str->Option Value)(base:Heap)(A:Around)(outer:List Env)(s:Shared)(H:Hp):Prop where
 frames:A.frames=some outer
 mod:Mod K mg base
 bs:∀b o,base.get? b=some o->s.heap.get? b=some o∧H b=none
 bsz:base.objs.size≤s.heap.objs.size
 funs:s.heap.FunFrames base outer
 frf:∀b∈frs outer,H b=none
 hok:HOk P w H s.heap
 bare:AllBare s.gens
def CE(outer:List Env)(P:dw)(w:eX)(H:Hp)(s:Shared)(Q:VK)(u:Value)(s':Shared):Prop:=
 ∃v H',s'.os=s.os∧AllBare s'.gens∧Un (frs outer) [] H H' s.heap s'.heap∧HOk P w H' s'.heap∧RelV v u∧Q v H'
def CR(CX:CXT)(outer:List Env)(P:dw)(w:eX)(H:Hp)(s:Shared)(Q:VK)(E:XK)(r:Result)(s':Shared):Prop:=
 match r with
 |.ok (.ret u)=>CE outer P w H s Q u s'
 |.ok _=>False
 |.error e=>CX outer H s E e s'
structure FnOk(P:dw)(w:eX)(K:aa)(mg:Str->Option Value)(base:Heap)(CX:CXT)(k:Nat)(f:Addr)(fd:eY)(ps:List Str)(sp:Sp):Prop where
 len:∀vs H Q E,sp vs H Q E->vs.length=ps.length
 run:∀(A:Around) (outer:List Env) (s:Shared) (H:Hp) (args:Args) (us:List Value) (vs:List V) (Q:VK) (E:XK),Room k A->Env0 P w K mg base A outer s H->BindsTo s fd args (ps.zip us)->Vals vs us->sp vs H Q E →
  codeAny (model P w) A (.call (.ref f) args) (CR CX outer P w H s Q E) s
theorem FnOk.imp{P:dw}{w:eX}{K:aa}{mg:Str->Option Value}{base:Heap}{CX:CXT}{k:Nat}{f:Addr}{fd:eY}{ps:List Str}{sp sp':Sp}(F:FnOk P w K mg base CX k f fd ps sp)
  (h:∀vs H Q E,sp' vs H Q E->sp vs H Q E):FnOk P w K mg base CX k f fd ps sp':=
 ⟨fun vs H Q E q=>F.len vs H Q E (h _ _ _ _ q),fun A outer s H args us vs Q E hr he hb hv hs=>F.run A outer s H args us vs Q E hr he hb hv (h _ _ _ _ hs)⟩
section
variable{X:Cx}{pins:List (Addr×Obj)}{σ:St}{H:Hp}{s s':Shared}
theorem Inv.env0(I:Inv X pins σ H s):Env0 X.prog X.w X.K X.mg X.base X.A X.stack s H:=
 ⟨I.ok.frames,I.ok.mod,I.bs,aF I.ok.bsz I.sz,I.stack,I.stkFree,I.hok,I.bare⟩
theorem Inv.after{Q:VK}{u:Value}(I:Inv X pins σ H s)(h:CE X.stack X.prog X.w H s Q u s'):EP X pins σ Q u s':=by
 obtain⟨v,H',os,bare,un,hok,r,q⟩:=h
 obtain⟨hh,g,d,t,os'⟩:=s'
 obtain rfl:os'=s.os:=os
 exact⟨v,H',I.call (h':=hh) (g':=g) (d':=d) (t':=t) (ch:=[]) un hok bare (fun b z=>absurd z (by simp)),r,q⟩
end
def tCall(sp:Sp)(dvs:List V)(E:XK)(t:TA):TE:=fun σ H Q=>t σ H fun vs H1=>sp (vs++dvs) H1 Q E
def Binds(K:aa)(fd:eY)(ps:List Str)(ds:List Value):Prop:=
 ∀(s:Shared) (us:List Value),K.In s.heap->(us++ds).length=ps.length->BindsTo s fd ⟨us,[]⟩ (ps.zip (us++ds))
theorem Binds.all{K:aa}{fd:eY}{ps:List Str}(h:∀us:List Value,us.length=ps.length->bindArgs fd ⟨us,[]⟩=pure (ps.zip us)):Binds K fd ps []:=fun s us _ hl=>by
 rw[aL]at hl ⊢
 exact .of_eq (h us hl)
def y9E(CX:CXT)(X:Cx)(E:XK):Prop:=∀(pins:List (Addr×Obj)) (σ:St) (H:Hp) (s:Shared) (e:Value) (s':Shared),Inv X pins σ H s->CX X.stack H s E e s'->X.xe e s'
section
variable{X:Cx}{CX:CXT}{k:Nat}{f C:Addr}{fd:eY}{ps:List Str}{sp:Sp}{dvs:List V}{ds:List Value}{E:XK}{x:Str}{p pos:Pos}{e:Expr}{es:List Expr}{t:TA}
theorem run_fn{pins:List (Addr×Obj)}{σ:St}{H:Hp}{s:Shared}{Q:VK}{us:List Value}{vs:List V}(F:FnOk X.prog X.w X.K X.mg X.base CX k f fd ps sp)(hr:Room k X.A)(hb:Binds X.K fd ps ds)(hd:Vals dvs ds)(hx:y9E CX X E)
  (I:Inv X pins σ H s) (r:Vals vs us) (h:sp (vs++dvs) H Q E):wpAny (model X.prog X.w) X.A (call (.ref f) us) (EP X pins σ Q) X.xe s:=by
 have r2:Vals (vs++dvs) (us++ds):=r.append hd
 have hl:(us++ds).length=ps.length:=by rw[←r2.length];exact F.len _ _ _ _ h
 refine wpAny_call (codeAny_mono (F.run X.A X.stack s H ⟨us,[]⟩ (us++ds) (vs++dvs) Q E hr I.env0 (hb s us I.kIn hl) r2 h) fun r s' hq=>?_)
 cases r with
 |error e=>exact hx pins σ H s e s' I hq
 |ok fl=>
  cases fl with
  |ret u=>exact I.after hq
  |next=>exact False.elim hq
  |brk=>exact False.elim hq
  |cont=>exact False.elim hq
theorem pe_call(F:FnOk X.prog X.w X.K X.mg X.base CX k f fd ps sp)(hr:Room k X.A)(hg:Gl X x)(hm:X.mg x=some (.ref f))(hk:bE X.K (.ref f)=true)(hb:Binds X.K fd ps ds)(hd:Vals dvs ds)(hx:y9E CX X E)
  (ha:PA X (e::es) t) (hdb:(x==("__debug__" : Str))=false:=by decide) (he:starEach (e::es) X.env=(false,eval e X.env)::starEach es X.env:=by rfl) (hpl:(e9 pos (starEach es X.env)).any (·.1)=false:=by rfl):
  PE X (.Call (.Name x p) (e::es) [] pos) (tCall sp dvs E t):=by
 intro pins s σ H Q I h
 refine wpAny_Call_Name_kw (y2v I hg hm ?_ hdb)
 refine er (h₀:=X.base) I.ok.mod.kin hk (thn (ha pos pins s σ H _ I h) fun us s1 ⟨vs,H1,I1,r,q⟩=>⟨I1.kIn,?_⟩) he hpl
 exact run_fn F hr hb hd hx I1 r q
structure Mk(K:aa)(C f:Addr):Prop where
 makes:PySem.W.makesIn K C=true
 init:aV K (.ref C) "__init__" = some (some (.ref f))
 fn:PySem.W.isFn K (.ref f)=true
 kp:bE K (.ref C)=true
end
section
variable{fd:eY}{ps ks:List Str}
structure KBinds(K:aa)(fd:eY)(ps ks:List Str)(g:List Value->List Value->List Value)(gV:List V->List V->List V):Prop where
 to:∀(s:Shared) (us ws:List Value),K.In s.heap->(g us ws).length=ps.length->BindsTo s fd ⟨us,ks.zip ws⟩ (ps.zip (g us ws))
 rel:∀{vs:List V} {us:List Value} {zs:List V} {ws:List Value},Vals vs us->Vals zs ws->Vals (gV vs zs) (g us ws)
end
structure FnScope(N P:List Str)(sc:fu):Prop where
 kind:sc.kind = .function
 co:sc.isCoroutine=false
 gen:sc.isGenerator=false
 nd:N.Nodup
 pre:N.take P.length=P
 par:∀x∈P,sc.names.lookup x=some .local∨sc.names.lookup x=some .cell
 nofree:∀y∈sc.names,y.2≠.free
theorem y0t{kindOf:Str->Option NameKind}{x:Str}:∀{binds:List (Str×Value)} {m:Str->Option Value},(∀v,(x,v)∉binds)->bindL kindOf binds m x=m x
 |[],_,_=>rfl
 | (n,v)::r,m,h=>by
  unfold bindL
  rw[y0t fun w hw=>h w (ae _ hw)]
  split
  ·have:x≠n:=by rintro rfl;exact h v af
   simp[this]
  ·rfl
theorem y1q{kindOf:Str->Option NameKind}{x:Str}:∀{binds:List (Str×Value)} {m:Str->Option Value},(∀v,(x,v)∉binds)->bindC kindOf binds m x=m x
 |[],_,_=>rfl
 | (n,v)::r,m,h=>by
  unfold bindC
  rw[y1q fun w hw=>h w (ae _ hw)]
  split
  ·rfl
  ·have:x≠n:=by rintro rfl;exact h v af
   simp[this]
theorem y0D{kindOf:Str->Option NameKind}{x:Str}{v:Value}:∀{P:List Str} {vs:List Value} {i:Nat} {m:Str->Option Value},P.Nodup->P[i]? = some x->vs[i]? = some v->kindOf x=some .local →
  bindL kindOf (P.zip vs) m x=some v
 |[],_,_,_,_,h,_,_=>by simp at h
 |_::_,[],_,_,_,_,h,_=>by simp at h
 |p::P,w::vs,0,m,nd,h1,h2,hk=>by
  simp at h1 h2;subst h1;subst h2
  show bindL kindOf ((p,w)::P.zip vs) m p=_
  unfold bindL
  rw[y0t fun v hv=>(aw.mp nd).1 (dD hv).1,if_pos hk]
  simp
 |p::P,w::vs,i+1,m,nd,h1,h2,hk=>by
  show bindL kindOf ((p,w)::P.zip vs) m x=_
  unfold bindL
  exact y0D (i:=i) (aw.mp nd).2 (by simpa using h1) (by simpa using h2) hk
theorem y0p{kindOf:Str->Option NameKind}{x:Str}{v:Value}:∀{P:List Str} {vs:List Value} {i:Nat} {m:Str->Option Value},P.Nodup->P[i]? = some x->vs[i]? = some v->kindOf x≠some .local →
  bindC kindOf (P.zip vs) m x=some v
 |[],_,_,_,_,h,_,_=>by simp at h
 |_::_,[],_,_,_,_,h,_=>by simp at h
 |p::P,w::vs,0,m,nd,h1,h2,hk=>by
  simp at h1 h2;subst h1;subst h2
  show bindC kindOf ((p,w)::P.zip vs) m p=_
  unfold bindC
  rw[y1q fun v hv=>(aw.mp nd).1 (dD hv).1,if_neg hk]
  simp
 |p::P,w::vs,i+1,m,nd,h1,h2,hk=>by
  show bindC kindOf ((p,w)::P.zip vs) m x=_
  unfold bindC
  exact y0p (i:=i) (aw.mp nd).2 (by simpa using h1) (by simpa using h2) hk
def z3Y(N:List Str)(vs:List V):St:=vs.map some++am (N.length - vs.length) none
def y1N(CX:CXT)(P:dw)(w:eX)(K:aa)(mg:Str->Option Value)(base:Heap)(N:List Str)(qual:Str)(scope:fu)(f:Addr)(cd:Value)(A:Around)(outer:List Env)(s:Shared)(H:Hp)(E:XK):Cx where
 prog:=P
 w:=w
 K:=K
 mg:=mg
 base:=base
 A:=A.deeper (envOfC qual scope s.heap.objs.size f cd)
 N:=N
 s₀:=s
 H₀:=H
 env:=envOfC qual scope s.heap.objs.size f cd
 outer:=outer
 stack:=envOfC qual scope s.heap.objs.size f cd::outer
 ex:=[]
 calm:=true
 fn:=fun _=>true
 pn:=[]
 xe:=fun e s'=>wpAny (model P w) (A.deeper (envOfC qual scope s.heap.objs.size f cd)) (leaving (envOfC qual scope s.heap.objs.size f cd) e) (fun _ s''=>CX outer H s E e s'') (fun e' s''=>CX outer H s E e' s'') s'
theorem y3z{sc:fu}{n:Nat}{x:Str}(h:sc.names.lookup x=some .cell):∃c,(e8 n sc.names []).lookup x=some c:=by
 have q:=dW sc.names n [] (.inl h)
 exact bI.mp q
theorem y7D{CX:CXT}{P:dw}{w:eX}{K:aa}{mg:Str->Option Value}{base:Heap}{N ps:List Str}{qual:Str}{scope:fu}{f:Addr}{cd:Value}{A:Around}{outer:List Env}{s s1:Shared}{H:Hp}{E:XK}{us:List Value}{vs:List V}
  (S:FnScope N ps scope) (hd:A.handled=none) (e0:Env0 P w K mg base A outer s H) (hl:vs.length=ps.length) (r:Vals vs us)
  (x:InCallC s s.heap.objs.size (bindL (envOfC qual scope s.heap.objs.size f cd).kindOf (ps.zip us) fun _=>none) (e8 (s.heap.objs.size+1) scope.names []) (bindC (envOfC qual scope s.heap.objs.size f cd).kindOf (ps.zip us) fun _=>none) s1):
  Inv (y1N CX P w K mg base N qual scope f cd A outer s H E) [] (z3Y N vs) H s1:=by
 have hpl:ps.length≤N.length:=by have:=congrArg List.length S.pre;rw[cQ]at this;omega
 obtain⟨h1,tk,rfl,hk⟩:=x.done
 have noA:∀b:Addr,b∉(y1N CX P w K mg base N qual scope f cd A outer s H E).ex:=fun b z=>absurd (show b∈([]:List Addr) from z) (by simp)
 refine⟨⟨e0.mod,S.kind,rfl,rfl,aj _,fun y z c h1 h2=>?_,fun y hy=>?_,fun y c _ h=>?_,fun _=>hd,Around.frames_deeper e0.frames,.inr ⟨rfl,rfl⟩,fun b z=>absurd z (noA b),e0.bs,e0.bsz,fun b _ _=>noA b,fun b z=>absurd z (noA b),e0.funs,e0.frf⟩,
  rfl,e0.bare,Un.kept hk,⟨_,x.toInCall.ns,fun i y v h1 h2 h3=>?_⟩,fun y c h=>⟨_,x.cell y c h⟩,e0.hok.fresh (aj _),fun y c h=>?_,fun p hp=>absurd (show p∈([]:List (Addr×Obj)) from hp) (by simp),e0.hok.kept hk,?_⟩
 ·exact name_of_addr x.apart (PySem.mem_of_lookup h1) (PySem.mem_of_lookup h2)
 ·have hy:scope.names.lookup y=some .cell∨scope.names.lookup y=some .free:=hy
  rcases hy with hy | hy
  ·exact y3z hy
  ·exact absurd rfl (S.nofree _ (PySem.mem_of_lookup hy))
 ·exact cG (x.above y c (PySem.mem_of_lookup h))
 ·have hi:i<vs.length:=by
   unfold z3Y at h2
   by_cases hi:i<vs.length
   ·exact hi
   ·rw[bp (by simpa using hi)]at h2
    rw[cb]at h2
    split at h2 <;> cases h2
  have ha:vs[i]? = some v:=by
   unfold z3Y at h2
   rw[aY (by simpa using hi),aB]at h2
   cases e:vs[i]? with
   |none=>rw[e]at h2;cases h2
   |some a=>rw[e]at h2;cases h2;rfl
  obtain⟨u,hu,rv⟩:=r.get ha
  have hp:ps[i]? = some y:=by
   rw[←S.pre,List.getElem?_take_of_lt (by omega)];exact h1
  have ndP:ps.Nodup:=by rw[←S.pre];exact S.nd.sublist (List.take_sublist _ _)
  refine⟨u,rv,?_⟩
  rcases S.par y (bx hp)with k | k
  ·exact .inl ⟨k,y0D ndP hp hu k⟩
  ·obtain⟨c,e⟩:=y3z (n:=s.heap.objs.size+1) k
   refine .inr ⟨.inl k,c,e,?_⟩
   have q:=x.cell y c e
   rw[y0p ndP hp hu (by show scope.names.lookup y≠_;rw[k];decide)]at q
   exact q
 ·exact e0.hok.fresh (cG (x.above y c (PySem.mem_of_lookup h)))
 ·unfold z3Y
  show _=N.length
  rw[aC,ah,cV]
  omega
theorem fn_of{CX:CXT}{P:dw}{w:eX}{K:aa}{mg:Str->Option Value}{base:Heap}{k:Nat}{f:Addr}{name qual:Str}{params:Arguments}{body:List Stmt}{scope:fu}{dV kV doc pm cdv ct oc:Value}{an od:Option Addr}
  {osl:Array (Option Value)} {N ps:List Str} {sp:Sp} (lk:K.lookup f=some ⟨oc,od,.func (bu name qual params body scope dV kV doc pm an cdv ct),osl⟩) (hcd:cT K cdv qual=true) (S:FnScope N ps scope)
  (len:∀vs H Q E,sp vs H Q E->vs.length=ps.length)
  (hbody:∀(A:Around) (outer:List Env) (s:Shared) (H:Hp) (vs:List V) (Q:VK) (E:XK),Room k (A.deeper (envOfC qual scope s.heap.objs.size f cdv))->sp vs H Q E →
   ∃t,PSs (y1N CX P w K mg base N qual scope f cdv A outer s H E) body t∧t { nx:=fun _ H'=>Q .non H',rt:=Q } (z3Y N vs) H):
  FnOk P w K mg base CX (k+1) f (bu name qual params body scope dV kV doc pm an cdv ct) ps sp:=by
 refine⟨len,fun A outer s H args us vs Q E hr e0 hb r hsp=>?_⟩
 have hl:=len _ _ _ _ hsp
 have KX:K.In s.heap:=e0.mod.kin.keeps fun b o e=>(e0.bs b o e).1
 have lim:s.heap.NoLimit:=e0.mod.nolimit.keeps fun b o e=>(e0.bs b o e).1
 have hkind:∀y∈ps.zip us,scope.names.lookup y.1=some .local∨(scope.names.lookup y.1=some .cell∧((e8 (s.heap.objs.size+1) scope.names []).lookup y.1).isSome=true):=fun⟨n,v⟩ hy=>by
  rcases S.par n (dD hy).1 with q | q
  ·exact .inl q
  ·exact .inr ⟨q,dW _ _ _ (.inl q)⟩
 refine codeAny_call_function hr.depth (KX _ _ lk) rfl S.co S.gen rfl (PySem.W.codeRec_of KX hcd) (hb _ _ _ _ ?_)
 refine wpAny_newFunctionEnv_cells S.kind hkind fun env he s1 x=>?_
 subst he
 refine⟨lim.keeps x.toInCall.keep,codeAny_func ?_⟩
 obtain⟨t,ht,hq⟩:=hbody A outer s H vs Q E (hr.deeper _) hsp
 have I:Inv (y1N CX P w K mg base N qual scope f cdv A outer s H E) [] (z3Y N vs) H s1:=y7D S hr.hd e0 hl r x
 refine wpAny_mono (ht [] s1 (z3Y N vs) H _ I hq) (fun fl s' hs=>?_) fun e s' hs=>hs
 have fin:∀{σ':St} {H':Hp} {v:V} {u:Value},Inv (y1N CX P w K mg base N qual scope f cdv A outer s H E) [] σ' H' s'->RelV v u->Q v H'->CE outer P w H s Q u s':=
  fun {σ' H' v u} J rv q=>⟨v,H',J.os,J.bare,J.base,J.hok,rv,q⟩
 cases fl with
 |ret u=>
  obtain⟨v,σ',H',J,rv,q⟩:=hs
  exact fin J rv q
 |next=>
  obtain⟨σ',H',J,q⟩:=hs
  exact fin (v:=V.non) (u:=Value.none) J rfl q
 |brk=>
  obtain⟨_,_,_,q⟩:=hs
  exact False.elim q
 |cont=>
  obtain⟨_,_,_,q⟩:=hs
  exact False.elim q
section
variable{X:Cx}{x:Str}{p pos:Pos}{e:Expr}{es:List Expr}{t:TA}{id T:String}{r:List V->Hp->VK->Prop}
def tCB(r:List V->Hp->VK->Prop)(t:TA):TE:=fun σ H Q=>t σ H fun vs H1=>r vs H1 Q
theorem z8Y(hc:z4a X (.builtin id) r)(hg:Gl X x)(hm:X.mg x=none)(hv:fo x=some (.builtin id))(ha:PA X (e::es) t)(hn:x ≠ "__name__" := by decide)(hdb:(x==("__debug__" : Str))=false:=by decide)
  (he:starEach (e::es) X.env=(false,eval e X.env)::starEach es X.env:=by rfl) (hpl:(e9 pos (starEach es X.env)).any (·.1)=false:=by rfl):PE X (.Call (.Name x p) (e::es) [] pos) (tCB r t):=by
 intro pins s σ H Q I h
 refine wpAny_Call_Name_kw (z4E I hg hm hv ?_ hn hdb)
 exact PyProof.Rows.callWith_builtin1 (thn (ha pos pins s σ H _ I h) fun us s1 ⟨vs,H1,I1,r1,q1⟩=>hc pins s1 σ H1 vs us Q I1 r1 q1) he hpl
theorem z6x(hc:z4a X (.type T) r)(hg:Gl X x)(hm:X.mg x=none)(hv:fo x=some (.type T))(ha:PA X (e::es) t)(hn:x ≠ "__name__" := by decide)(hdb:(x==("__debug__" : Str))=false:=by decide)
  (he:starEach (e::es) X.env=(false,eval e X.env)::starEach es X.env:=by rfl) (hpl:(e9 pos (starEach es X.env)).any (·.1)=false:=by rfl):PE X (.Call (.Name x p) (e::es) [] pos) (tCB r t):=by
 intro pins s σ H Q I h
 refine wpAny_Call_Name_kw (z4E I hg hm hv ?_ hn hdb)
 exact PyProof.Rows.callWith_type1 (thn (ha pos pins s σ H _ I h) fun us s1 ⟨vs,H1,I1,r1,q1⟩=>hc pins s1 σ H1 vs us Q I1 r1 q1) he hpl
end
end L2
namespace HT
open PySem PyProof.Rows
section
open PySem.SeqAt
open PySem.AutoSeq1 (wpAny_loadPart')
open PySem.MeetsSeq PySem.MeetsSeq2 PySem.MeetsSeq3
end
section
variable{prog:dw}{w:eX}{A:Around}{E:Value->Shared->Prop}{s:Shared}
def sIx(n d:Nat):Option Int->Nat
 |none=>d
 |some v=>if v<0 then(v+(n:Int)).toNat else min v.toNat n
theorem sIx_le(n d:Nat)(hd:d≤n)(o:Option Int):sIx n d o≤n:=by
 cases o with
 |none=>exact hd
 |some v=>
  show(if v<0 then(v+(n:Int)).toNat else min v.toNat n)≤n
  by_cases hv:v<0
  ·rw[if_pos hv];omega
  ·rw[if_neg hv];exact Nat.min_le_right _ _
theorem y8r(v:Int)(n d:Nat):(if v<0 then max (v+(n:Int)) 0 else min v (n:Int))=((sIx n d (some v):Nat):Int):=by
 show(if v<0 then max (v+(n:Int)) 0 else min v (n:Int))=(((if v<0 then(v+(n:Int)).toNat else min v.toNat n):Nat):Int)
 by_cases hv:v<0
 ·simp only[if_pos hv];omega
 ·simp only[if_neg hv];omega
theorem y5j(lo hi:Option Int)(n:Nat):Builtin.Slice.sliceAdjust lo hi 1 (n:Int)=(((sIx n 0 lo:Nat):Int),((sIx n n hi:Nat):Int)):=by
 have h1:¬ ((1:Int)<0):=by omega
 unfold Builtin.Slice.sliceAdjust
 simp only[h1,if_false]
 refine Prod.ext ?_ ?_
 ·cases lo with
  |none=>rfl
  |some v=>exact y8r v n 0
 ·cases hi with
  |none=>rfl
  |some v=>exact y8r v n n
theorem y5B(i j:Nat):Builtin.Slice.slicePlaces (i:Int) (j:Int) 1=j - i:=by
 unfold Builtin.Slice.slicePlaces
 have h1:(1:Int)>0:=by omega
 simp only[h1,if_true,Int.ediv_one]
 split <;> omega
theorem z8d{v:Value}{o:Option Int}{Q:Option Int->Shared->Prop}(p:IsPart v o)(h:Q o s):wpAny (model prog w) A (Builtin.Slice.slicePartIndex v) Q E s:=by
 cases p with
 |none=>exact slicePart_none h
 |int i t=>exact slicePart_int h
theorem z3n{sl:Addr}{vl vu:Value}{lo hi:Option Int}{n:Nat}{Q:Int×Int×Nat->Shared->Prop}(hs:s.heap.IsSliceOf sl vl vu .none)(pl:IsPart vl lo)(pu:IsPart vu hi)
  (h:Q (((sIx n 0 lo:Nat):Int),1,sIx n n hi - sIx n 0 lo) s):wpAny (model prog w) A (Builtin.Slice.sliceApplied (.ref sl) (pure (n:Int))) Q E s:=by
 obtain⟨os,hos,hcs,hds⟩:=id hs
 unfold Builtin.Slice.sliceApplied Builtin.Slice.sliceFields
 refine wpAny_bind (wpAny_bind (wpAny_field hos hds (x:=vl) rfl (wpAny_bind (wpAny_field hos hds (x:=vu) rfl (wpAny_bind (wpAny_field hos hds (x:=.none) rfl (wpAny_pure ?_)))))))
 refine wpAny_bind (slicePart_none ?_)
 show wpAny _ _ (if((1:Int)==0)=true then _ else _) _ _ s
 rw[if_neg (by decide)]
 refine wpAny_bind (z8d pl (wpAny_bind (z8d pu (wpAny_bind (wpAny_pure ?_)))))
 show wpAny _ _ (match Builtin.Slice.sliceAdjust lo hi 1 (n:Int)with | (lo,hi)=>pure (lo,(1:Int),Builtin.Slice.slicePlaces lo hi 1)) _ _ s
 rw[y5j lo hi n]
 show wpAny _ _ (pure (((sIx n 0 lo:Nat):Int),(1:Int),Builtin.Slice.slicePlaces ((sIx n 0 lo:Nat):Int) ((sIx n n hi:Nat):Int) 1)) _ _ s
 rw[y5B]
 exact wpAny_pure h
theorem x1p(xs:Array Value)(i k:Nat):((ad k).filterMap fun(m:Nat)=>xs[((i:Int)+(m:Int)*1).toNat]?).toArray=((xs.toList.drop i).take k).toArray:=by
 have e:(fun(m:Nat)=>xs[((i:Int)+(m:Int)*1).toNat]?)=fun m=>xs[i+m]?:=by
  funext m
  have:((i:Int)+(m:Int)*1).toNat=i+m:=by omega
  rw[this]
 rw[e]
 have:=pick_run xs i k
 rw[List.filterMap_map]at this
 have e2:((fun x=>xs[x]?)∘fun x=>i+x)=fun m=>xs[i+m]?:=rfl
 rw[e2]at this
 rw[this]
theorem getItem_tuple_cut{t sl:Addr}{items:Array Value}{vl vu:Value}{lo hi:Option Int}{Q:Value->Shared->Prop}(ht:IsTup s.heap t items)(hs:s.heap.IsSliceOf sl vl vu .none)(pl:IsPart vl lo)(pu:IsPart vu hi)
  (hw:¬ (sIx items.size 0 lo=0∧sIx items.size items.size hi=items.size))
  (h:Q (.ref s.heap.objs.size) { s with heap:=s.heap.push { cls:=.type "tuple",data:=.seq ((items.toList.drop (sIx items.size 0 lo)).take (sIx items.size items.size hi - sIx items.size 0 lo)).toArray } })
  (hsz:items.size≤sizeLine):wpAny (model prog w) A (getItem (.ref t) (.ref sl)) Q E s:=by
 have htake:sizeOk (.seq ((items.toList.drop (sIx items.size 0 lo)).take (sIx items.size items.size hi - sIx items.size 0 lo)).toArray):=by
  show((items.toList.drop (sIx items.size 0 lo)).take (sIx items.size items.size hi - sIx items.size 0 lo)).toArray.size≤sizeLine
  rw[au,cQ,dz,bC]
  omega
 have hj:sIx items.size items.size hi≤items.size:=sIx_le _ _ (aj _) hi
 obtain⟨os,hos,hcs,hds⟩:=id hs
 have hTs:s.TypeIs (.ref sl) "slice" := ⟨os,hos,hcs⟩
 unfold getItem
 try with_reducible refine wpAny_holding ?_
 first | refine wpAny_bind (wpAny_pure ?_) | skip
 refine wpAny_bind (wpAny_sequenceKey ht.typeIs (by decide) ?_)
 refine wpAny_bind (wpAny_callSpecial?_slot (name:=Str.ofString "__getitem__") ht.typeIs PyProof.Rows.slot_tuple_getitem
  (wpAny_call_entry PyProof.Rows.slot_tuple_getitem ht.typeIs entry_tuple_getitem ?_ (args_tuple_getitem _ _)))
 show wpAny _ _ (Builtin.Tuple.tupleItemsOf (.ref t) >>= _) _ _ s
 refine wpAny_bind (tupleItemsOf_ ht ?_)
 refine wpAny_bind (wpAny_typeOf hTs ?_)
 rw[if_pos (by decide)]
 refine wpAny_bind (z3n hs pl pu ?_)
 have hno:¬ ((((sIx items.size 0 lo:Nat):Int)==0&&(1:Int)==1&&(sIx items.size items.size hi - sIx items.size 0 lo)==items.size)=true):=by
  intro q
  rw[aA,aA]at q
  have q1:((sIx items.size 0 lo:Nat):Int)=0:=eq_of_beq q.1.1
  have q2:sIx items.size items.size hi - sIx items.size 0 lo=items.size:=eq_of_beq q.2
  exact hw ⟨by omega,by omega⟩
 show wpAny _ _ (if(((sIx items.size 0 lo:Nat):Int)==0&&(1:Int)==1&&(sIx items.size items.size hi - sIx items.size 0 lo)==items.size)=true then _ else _) _ _ s
 rw[if_neg hno,x1p]
 first
  |exact wpAny_bind (m:=Builtin.Tuple.tupleExact _) (wpAny_newObj_type (wpAny_pure ⟨_,rfl,wpAny_pure h⟩) htake)
  |exact wpAny_bind (m:=Builtin.Tuple.tupleExact _) (wpAny_newObj_type (wpAny_bind (wpAny_pure (wpAny_pure ⟨_,rfl,wpAny_pure h⟩))) htake)
  |exact wpAny_bind (wpAny_bind (m:=Builtin.Tuple.tupleExact _) (wpAny_newObj_type (wpAny_pure (wpAny_pure ⟨_,rfl,wpAny_pure h⟩)) htake))
  |exact wpAny_bind (wpAny_bind (m:=Builtin.Tuple.tupleExact _) (wpAny_newObj_type (wpAny_pure ⟨_,rfl,wpAny_pure h⟩) htake))
end
end HT
namespace L2
open PySem PySem.Spec PyProof.Rows
abbrev TO:=St->Hp->(Option Int->Hp->Prop)->Prop
def PO(X:Cx)(e:Option Expr)(t:TO):Prop:=
 ∀(pins:List (Addr×Obj)) (s:Shared) (σ:St) (H:Hp) (Q:Option Int->Hp->Prop),Inv X pins σ H s->t σ H Q →
  wpAny (model X.prog X.w) X.A (evalPart e X.env) (fun u s'=>∃o H',Inv X pins σ H' s'∧IsPart u o∧Q o H') X.xe s
def tNoPart:TO:=fun _ H Q=>Q none H
def tPart(t:TE):TO:=fun σ H Q=>t σ H fun x H1=>∃i,x = .int i∧Q (some i) H1
theorem z5G{ns:List Int}:∀{us:List Value},Vals (ns.map V.int) us->IntsAre us ns:=by
 induction ns with
 |nil=>intro us r;rw[cD]at r;cases r;exact .nil
 |cons n ns ih=>
  intro us r
  rw[ay]at r
  cases r with
  |cons r1 r2=>
   obtain⟨t,e⟩:=r1
   subst e
   exact .cons n t (ih r2)
section
variable{X:Cx}{e:Expr}{te:TE}{lo hi:Option Expr}{tl th:TO}{pos p2:Pos}
theorem po_none:PO X none tNoPart:=by
 intro pins s σ H Q I h
 rw[evalPart_none]
 exact wpAny_pure ⟨none,H,I,.none,h⟩
theorem po_some(h:PE X e te):PO X (some e) (tPart te):=by
 intro pins s σ H Q I hw
 rw[evalPart_some]
 refine thn (h pins s σ H _ I hw) fun u s1 ⟨x,H1,I1,r1,q1⟩=>?_
 obtain⟨i,rfl,q⟩:=q1
 obtain⟨t,rfl⟩:=r1
 exact⟨some i,H1,I1,.int i t,q⟩
def SlR(X:Cx)(r:V->Option Int->Option Int->Hp->VK->Prop):Prop:=
 ∀(pins:List (Addr×Obj)) (s:Shared) (σ:St) (H:Hp) (x:V) (v vl vu:Value) (lo hi:Option Int) (sl:Addr) (Q:VK),Inv X pins σ H s->RelV x v->s.heap.IsSliceOf sl vl vu .none->IsPart vl lo->IsPart vu hi->r x lo hi H Q →
  ∃T id,typeLookup (.type T) "__getitem__" = pure (some (.builtin id))∧s.TypeIs v T∧wpAny (model X.prog X.w) X.A (getItem v (.ref sl)) (EP X pins σ Q) X.xe s
def tSl(r:V->Option Int->Option Int->Hp->VK->Prop)(te:TE)(tl th:TO):TE:=fun σ H Q=>te σ H fun x H1=>tl σ H1 fun l H2=>th σ H2 fun u H3=>r x l u H3 Q
theorem y3f{r:V->Option Int->Option Int->Hp->VK->Prop}(hr:SlR X r)(he:PE X e te)(hl:PO X lo tl)(hu:PO X hi th):PE X (.Subscript e (.Slice lo hi none p2) pos) (tSl r te tl th):=by
 intro pins s σ H Q I h
 refine Subscript_ (thn (he pins s σ H _ I h) fun v s1 ⟨x,H1,I1,r1,q1⟩=>?_)
 refine wpAny_Slice (thn (hl pins s1 σ H1 _ I1 q1) fun vl s2 ⟨l,H2,I2,pl,q2⟩=>thn (hu pins s2 σ H2 _ I2 q2) fun vu s3 ⟨u,H3,I3,pu,q3⟩=>?_)
 rw[evalPart_none]
 refine wpAny_pure ?_
 have I4:Inv X pins σ H3 { s3 with heap:=s3.heap.push { cls:=.type "slice",data:=.fields #[vl,vu,.none] } }:=I3.kept (t':=s3.toks) fun b ob q=>Heap.get?_push_of_some _ q
 obtain⟨T,id,hT,ht,hg⟩:=hr pins { s3 with heap:=s3.heap.push { cls:=.type "slice",data:=.fields #[vl,vu,.none] } } σ H3 x v vl vu l u s3.heap.objs.size Q I4 r1 (Heap.IsSliceOf.new ..) pl pu q3
 show wpAny (model X.prog X.w) X.A (subscriptTail e (.Slice lo hi none p2) v (.ref s3.heap.objs.size)) (EP X pins σ Q) X.xe { s3 with heap:=s3.heap.push { cls:=.type "slice",data:=.fields #[vl,vu,.none] } }
 exact tail_any (ops:=[.ref s3.heap.objs.size,v]) ht hT hg (by with_unfolding_all rfl)
def y5O(xs:List V)(lo hi:Option Int):List V:=(xs.drop (HT.sIx xs.length 0 lo)).take (HT.sIx xs.length xs.length hi - HT.sIx xs.length 0 lo)
theorem z6B(xs:List V)(lo hi:Option Int):(y5O xs lo hi).length≤xs.length:=by
 unfold y5O
 rw[cQ,dz]
 omega
end
def ixN(n:Nat)(i:Int):Option Nat:=if 0≤i then(if i<n then some i.toNat else none)else if -(n:Int)≤i then some (i+n).toNat else none
def atI{α:Type}(xs:List α)(i:Int):Option α:=(ixN xs.length i).bind fun j=>xs[j]?
theorem y2i{n:Nat}{i:Int}{j:Nat}(h:ixN n i=some j):seqIndex? i n=some j∧j<n∧-(n:Int)≤i∧i<n:=by
 unfold ixN at h
 by_cases h0:0≤i
 ·rw[if_pos h0]at h
  by_cases h1:i<n
  ·rw[if_pos h1]at h
   have e:i.toNat=j:=Option.some.inj h
   exact⟨by rw[seqIndex_of h0 h1,e],by omega,by omega,h1⟩
  ·rw[if_neg h1]at h;cases h
 ·rw[if_neg h0]at h
  by_cases h1:-(n:Int)≤i
  ·rw[if_pos h1]at h
   have e:(i+n).toNat=j:=Option.some.inj h
   exact⟨by rw[seqIndex_neg (by omega) h1,e],by omega,h1,by omega⟩
  ·rw[if_neg h1]at h;cases h
theorem y2H{α:Type}{xs:List α}{i:Int}{v:α}(h:atI xs i=some v):∃j,seqIndex? i xs.length=some j∧xs[j]? = some v∧j<xs.length∧-(xs.length:Int)≤i∧i<xs.length:=by
 unfold atI at h
 cases e:ixN xs.length i with
 |none=>rw[e]at h;cases h
 |some j=>
  rw[e]at h
  obtain⟨h1,h2,h3,h4⟩:=y2i e
  exact⟨j,h1,h,h2,h3,h4⟩
theorem z1M{α:Type}{xs:List α}{j:Nat}{v:α}(h:xs[j]? = some v):atI xs (j:Int)=some v:=by
 have hj:j<xs.length:=(aP.mp h).1
 have e:ixN xs.length (j:Int)=some j:=by
  unfold ixN
  rw[if_pos (by omega),if_pos (by omega)];simp
 unfold atI;rw[e];exact h
def y1U(b:Expr):Prop:=∀o i,subscripted b false o i=operate [o,i] (getItem o i)
def IxR(X:Cx)(r:R2):Prop:=
 ∀(value slice:Expr) (pins:List (Addr×Obj)) (s:Shared) (σ:St) (H:Hp) (x y:V) (v u:Value) (Q:VK),Inv X pins σ H s->RelV x v->RelV y u->r x y H Q →
  subscripted slice false v u=operate [v,u] (getItem v u)->wpAny (model X.prog X.w) X.A (subscriptTail value slice v u) (EP X pins σ Q) X.xe s
def MtR(X:Cx)(id:String)(r:V->List V->Hp->VK->Prop):Prop:=
 ∀(pins:List (Addr×Obj)) (s:Shared) (σ:St) (H:Hp) (x:V) (xs:List V) (v:Value) (us:List Value) (Q:VK),Inv X pins σ H s->RelV x v->Vals xs us->r x xs H Q →
  wpAny (model X.prog X.w) X.A (call (.builtin id) (v::us)) (EP X pins σ Q) X.xe s
section
variable{X:Cx}{a b:Expr}{ta tb:TE}{pos:Pos}
theorem IxR.or{r r':R2}(h:IxR X r)(h':IxR X r'):IxR X (fun x y H Q=>r x y H Q∨r' x y H Q):=by
 intro value slice pins s σ H x y v u Q I rx ry q hs
 rcases q with q | q
 ·exact h value slice pins s σ H x y v u Q I rx ry q hs
 ·exact h' value slice pins s σ H x y v u Q I rx ry q hs
theorem pe_ix{r:R2}(hr:IxR X r)(ha:PE X a ta)(hb:PE X b tb)(hs:y1U b):PE X (.Subscript a b pos) (tOp r ta tb):=by
 intro pins s σ H Q I h
 exact Subscript_ (binT ha hb I h fun v u s2 x y H2 I2 rx ry q=>hr a b pins s2 σ H2 x y v u Q I2 rx ry q (hs _ _))
def rIxL(K:aa):R2:=fun x y H Q=>∃p xs i v,x = .ref p∧y = .int i∧SqL K H p xs∧atI xs i=some v∧Q v H
def rIxT(K:aa):R2:=fun x y H Q=>∃p xs i v,x = .ref p∧y = .int i∧SqT K H p xs∧atI xs i=some v∧Q v H
def rIxS:R2:=fun x y H Q=>∃z i c,x = .str z∧y = .int i∧z.length≤sizeLine∧atI z.cps.toList i=some c∧Q (.str ⟨#[c]⟩) H
theorem ix_list:IxR X (rIxL X.K):=by
 intro value slice pins s σ H x y v u Q I rx ry h hs
 obtain⟨p,xs,i,z,rfl,rfl,hq,he,q⟩:=h
 cases rx
 obtain⟨t,rfl⟩:=ry
 obtain⟨its,r,pl,hz⟩:=I.list hq
 obtain⟨j,h1,h2,h3,h4,h5⟩:=y2H he
 obtain⟨w,ew,rw'⟩:=r.get h2
 have hl:=r.length
 have hn:=z8n
 have fin:EP X pins σ Q w s:=⟨z,H,I,rw',q⟩
 by_cases h0:0≤i
 ·have hj:i.toNat=j:=by
   rw[seqIndex_of h0 h5]at h1
   exact Option.some.inj h1
  exact item_listR pl.isList h0 (by omega) (by rw[hj];simpa using ew) fin hs
 ·have hj:(i+(its.toArray.size:Int)).toNat=j:=by
   rw[seqIndex_neg (by omega) h4]at h1
   rw[au,←hl]
   exact Option.some.inj h1
  exact subscriptTail_builtinR (x:=w) pl.isList.typeIs slot_list_getitem.lookup
   (wpAny_getItem_list_neg (Q:=fun r s'=>r=w∧EP X pins σ Q r s') pl.isList (by omega) (by rw[au] <;> omega) (by omega) (by rw[hj];simpa using ew) ⟨rfl,fin⟩) hs
theorem ix_tup:IxR X (rIxT X.K):=by
 intro value slice pins s σ H x y v u Q I rx ry h hs
 obtain⟨p,xs,i,z,rfl,rfl,hq,he,q⟩:=h
 cases rx
 obtain⟨t,rfl⟩:=ry
 obtain⟨its,r,pl,hz⟩:=I.tuple hq
 obtain⟨j,h1,h2,h3,h4,h5⟩:=y2H he
 obtain⟨w,ew,rw'⟩:=r.get h2
 have hl:=r.length
 have hn:=z8n
 have fin:EP X pins σ Q w s:=⟨z,H,I,rw',q⟩
 exact subscriptTail_builtinR (x:=w) pl.typeIs slot_tuple_getitem.lookup
  (getItem_tuple (j:=j) (Q:=fun r s'=>r=w∧EP X pins σ Q r s') pl (by omega) (by omega) (by rw[au,←hl];exact h1) (by simpa using ew) ⟨rfl,fin⟩) hs
theorem ix_str:IxR X rIxS:=by
 intro value slice pins s σ H x y v u Q I rx ry h hs
 obtain⟨z,i,c,rfl,rfl,hz,he,q⟩:=h
 obtain⟨t,rfl⟩:=rx
 obtain⟨t',rfl⟩:=ry
 obtain⟨j,h1,h2,h3,h4,h5⟩:=y2H he
 have hl:z.cps.toList.length=z.length:=by simp[Str.length]
 rw[hl]at h1 h4 h5
 have hn:=z8n
 exact tail_any (typeIs_str s z t) slot_str_getitem.lookup (getItem_str (c:=c) (by
  have e1:decide (i < -(2 ^ 63:Int))=false:=decide_eq_false (by omega)
  have e2:decide (i ≥ 2 ^ 63)=false:=decide_eq_false (by omega)
  rw[e1,e2,Bool.or_false]) (by rw[h1];simpa using h2) ⟨.str ⟨#[c]⟩,H,I.tok _,⟨_,rfl⟩,q⟩) hs
def rIx(K:aa):R2:=fun x y H Q=>rIxL K x y H Q∨rIxT K x y H Q∨rIxS x y H Q
theorem x2M:IxR X (rIx X.K):=ix_list.or (ix_tup.or ix_str)
theorem y5g(its:List Value)(n j:Nat)(u:Value):Obj.mapSeq (·.setIfInBounds j u) { cls:=.type "list",data:=.seq its.toArray n } = { cls:=.type "list",data:=.seq (its.set j u).toArray n }:=by
 simp[Obj.mapSeq]
theorem Inv.lst{pins:List (Addr×Obj)}{σ:St}{H:Hp}{s:Shared}{p:Addr}{xs:List V}(I:Inv X pins σ H s)(h:H p=some (.lst xs)):
  ∃(its:List Value) (n:Nat),Vals xs its∧s.heap.get? p=some { cls:=.type "list",data:=.seq its.toArray n }∧xs.length≤sizeLine:=by
 obtain⟨z,its,n,r,e⟩:=I.hok p _ h
 exact⟨its,n,r,e,z⟩
theorem Inv.lstUpd{pins:List (Addr×Obj)}{σ:St}{H:Hp}{s:Shared}{p:Addr}{xs ys:List V}{its its':List Value}{n n':Nat}{f:Obj->Obj}(I:Inv X pins σ H s)(h:H p=some (.lst xs))
  (ho:s.heap.get? p=some { cls:=.type "list",data:=.seq its.toArray n }) (hf:f { cls:=.type "list",data:=.seq its.toArray n } = { cls:=.type "list",data:=.seq its'.toArray n' }) (r:Vals ys its') (hz:ys.length≤sizeLine) (t:Nat):
  Inv X pins σ (upd H p (.lst ys)) { s with heap:=s.heap.update p f,toks:=t }:=by
 have e:(s.heap.update p f).get? p=some { cls:=.type "list",data:=.seq its'.toArray n' }:=by
  rw[Heap.get?_update_self f ho (by rw[hf] <;> rfl),hf]
 refine I.write (x:=p) (e:=p) (by rw[h];trivial) (.inl rfl) (fun b u hb q=>(Heap.get?_update_other _ _ (Ne.symm hb)).trans q) ⟨_,e⟩ ?_
 exact⟨hz,its',n',r,e⟩
def rSetL:V->V->V->Hp->(Hp->Prop)->Prop:=fun o i v H Q=>∃p xs k j,o = .ref p∧i = .int k∧H p=some (.lst xs)∧ixN xs.length k=some j∧Q (upd H p (.lst (xs.set j v)))
theorem x1Z:PSet X rSetL:=by
 intro pins s σ H o i v ov iv u Q I ro ri rv h
 obtain⟨p,xs,k,j,rfl,rfl,hp,hj,q⟩:=h
 cases ro
 obtain⟨t,rfl⟩:=ri
 obtain⟨its,n,r,ho,hz⟩:=I.lst hp
 obtain⟨h1,h2,h3,h4⟩:=y2i hj
 have hl:=r.length
 have hn:=z8n
 have I':Inv X pins σ (upd H p (.lst (xs.set j v))) { s with heap:=s.heap.update p (Obj.mapSeq (·.setIfInBounds j u)) }:=
  I.lstUpd hp ho (y5g its n j u) (r.set rv j) (by rw[dF];exact hz) s.toks
 by_cases h0:0≤k
 ·have hk:k.toNat=j:=by
   rw[seqIndex_of h0 h4]at h1
   exact Option.some.inj h1
  exact PySem.W.ki_setAt ho h0 (by omega) (by rw[au,←hl];exact h4) (by rw[hk];exact⟨_,I',q⟩)
 ·have hk:(k+(its.toArray.size:Int)).toNat=j:=by
   rw[seqIndex_neg (by omega) h3]at h1
   rw[au,←hl]
   exact Option.some.inj h1
  exact PySem.W.ki_setBack ho (by omega) (by rw[au,←hl];exact h3) (by omega) (by rw[hk];exact⟨_,I',q⟩)
theorem y0U(lo hi:Option Int)(n:Nat):(sliceBounds lo hi none n).1=((HT.sIx n 0 lo:Nat):Int)∧(sliceBounds lo hi none n).2.1=((HT.sIx n n hi:Nat):Int)∧(sliceBounds lo hi none n).2.2=1:=by
 refine⟨?_,?_,rfl⟩
 ·cases lo with
  |none=>simp[sliceBounds,HT.sIx]
  |some i=>
   simp only[sliceBounds,HT.sIx,eO,show(1:Int)>0 by decide,if_true]
   by_cases h:i<0
   ·simp only[h,if_true] <;> omega
   ·simp only[h,if_false] <;> omega
 ·cases hi with
  |none=>simp[sliceBounds,HT.sIx]
  |some i=>
   simp only[sliceBounds,HT.sIx,eO,show(1:Int)>0 by decide,if_true]
   by_cases h:i<0
   ·simp only[h,if_true] <;> omega
   ·simp only[h,if_false] <;> omega
theorem z9Y(its:List Value)(lo hi:Option Int):slicePick its.toArray lo hi none=((its.drop (HT.sIx its.length 0 lo)).take (HT.sIx its.length its.length hi - HT.sIx its.length 0 lo)).toArray:=by
 obtain⟨h1,h2,h3⟩:=y0U lo hi its.toArray.size
 unfold slicePick
 rw[h1,h2,h3]
 simp only[sliceRange_one,pick_run,au] <;> rfl
def rSlL(K:aa):V->Option Int->Option Int->Hp->VK->Prop:=fun x lo hi H Q=>∃a xs,x = .ref a∧SqL K H a xs∧∀p,H p=none->Q (.ref p) (upd H p (.lst (y5O xs lo hi)))
theorem sl_list:SlR X (rSlL X.K):=by
 intro pins s σ H x v vl vu lo hi sl Q I rx hs pl pu h
 obtain⟨a,xs,rfl,hx,q⟩:=h
 cases rx
 obtain⟨its,r,ht,hz⟩:=I.list hx
 have hlen:=r.length
 refine⟨"list",_,slot_list_getitem.lookup,ht.isList.typeIs,?_⟩
 refine wpAny_getItem_list_slice ht.isList hs pl pu .none (by simp) ?_ (by rw[au] <;> omega)
 rw[z9Y,←hlen]
 refine⟨.ref s.heap.objs.size,_,I.laid (t':=s.toks) (o:=.lst (y5O xs lo hi)) (fun b ob q=>Heap.get?_push_of_some _ q) (aj _) ?_,rfl,q _ (I.hok.fresh (aj _))⟩
 exact⟨aF (z6B xs lo hi) hz,_,0,(r.drop (HT.sIx xs.length 0 lo)).take (HT.sIx xs.length xs.length hi - HT.sIx xs.length 0 lo),Heap.get?_push_size _ rfl⟩
theorem z9r:z4a X (.type "tuple") (fun xs H Q=>∃p ys,xs=[.ref p]∧((SqL X.K H p ys∧∀l,H l=none->Q (.ref l) (upd H l (.tup ys)))∨(SqT X.K H p ys∧Q (.ref p) H))):=by
 intro pins s σ H xs us Q I r h
 obtain⟨p,ys,rfl,h⟩:=h
 obtain⟨u,rfl,rx⟩:=z7v r
 cases rx
 rcases h with⟨hq,q⟩ | ⟨hq,q⟩
 ·obtain⟨its,r',pl,hz⟩:=I.list hq
  have hlen:=r'.length
  refine call_tuple_list pl.isList (fun h' kp=>?_) (by simp only[au] <;> omega)
  have I1:Inv X pins σ H { s with heap:=h' }:=I.kept (t':=s.toks) kp
  have I2:Inv X pins σ (upd H h'.objs.size (.tup ys)) { s with heap:=h'.push { cls:=.type "tuple",data:=.seq its.toArray } }:=
   I1.laid (t':=s.toks) (fun b o e=>Heap.get?_push_of_some _ e) (aj _) (show ObjOk X.prog X.w _ _ _ (.tup ys) from⟨hz,its,r',TupN.new _ _⟩)
  exact⟨.ref h'.objs.size,_,I2,rfl,q _ (I1.hok.fresh (aj _))⟩
 ·obtain⟨its,r',pl,hz⟩:=I.tuple hq
  exact call_tuple_same pl ⟨.ref p,H,I,rfl,q⟩
def tyV(K:aa)(T:String)(x:V)(H:Hp):Prop:=match x with
 |.str _=>T = "str"
 |.int _=>T = "int"
 |.ref p=>(T = "list" ∧ ∃xs,SqL K H p xs)∨(T = "tuple" ∧ ∃o,K.lookup p=some o∧o.cls = .type "tuple" ∧ o.dict=none) ∨
   (T = "dict" ∧ ((∃kvs,H p=some (.dK kvs))∨∃kvs,H p=some (.dT kvs)))∨(T = "set" ∧ ∃S n,H p=some (.set S n))
 |_=>False
theorem tyV_is{pins:List (Addr×Obj)}{σ:St}{H:Hp}{s:Shared}{T:String}{x:V}{v:Value}(I:Inv X pins σ H s)(r:RelV x v)(ty:tyV X.K T x H):
  s.TypeIs v T∧∀a,v = .ref a->∃ob,s.heap.get? a=some ob∧ob.dict=none:=by
 cases x with
 |str z=>
  obtain⟨t,rfl⟩:=r
  cases (show T = "str" from ty)
  exact⟨typeIs_str s z t,fun _ e=>nomatch e⟩
 |int i=>
  obtain⟨t,rfl⟩:=r
  cases (show T = "int" from ty)
  exact⟨typeIs_int s i t,fun _ e=>nomatch e⟩
 |ref p=>
  cases r
  rcases ty with⟨rfl,xs,hq⟩ | ⟨rfl,o,hk,hc,hd⟩ | ⟨rfl,hk⟩ | ⟨rfl,S,n,hk⟩
  ·obtain⟨its,_,pl,_⟩:=I.list hq
   refine⟨pl.isList.typeIs,fun a e=>?_⟩
   cases e
   obtain⟨o,n,e,c,hd,_⟩:=pl
   exact⟨o,e,hd⟩
  ·refine⟨⟨o,I.kIn p o hk,hc⟩,fun a e=>?_⟩
   cases e
   exact⟨o,I.kIn _ o hk,hd⟩
  ·have z:∃o,s.heap.get? p=some o∧o.ExactDict:=by
    rcases hk with⟨kvs,hk⟩ | ⟨kvs,hk⟩
    ·obtain⟨_,_,_,_,o,_,_,e,ex,_⟩:=I.hok p _ hk
     exact⟨o,e,ex⟩
    ·obtain⟨_,_,_,_,o,_,_,e,ex,_⟩:=I.hok p _ hk
     exact⟨o,e,ex⟩
   obtain⟨o,e,ex⟩:=z
   refine⟨⟨o,e,ex.1⟩,fun a e2=>?_⟩
   cases e2
   exact⟨o,e,ex.2.1⟩
  ·obtain⟨o,_,_,_,e,ex,_⟩:=I.hok p _ hk
   refine⟨⟨o,e,ex.1⟩,fun a e2=>?_⟩
   cases e2
   exact⟨o,e,ex.2.1⟩
 |_=>exact False.elim ty
def tBM(K:aa)(T:String)(r:V->List V->Hp->VK->Prop)(to:TE)(t:TA):TE:=fun σ H Q=>to σ H fun x H1=>tyV K T x H1∧t σ H1 fun xs H2=>r x xs H2 Q
variable{o e:Expr}{es:List Expr}{to:TE}{t:TA}{name:Str}{apos cpos:Pos}{T id:String}{r:V->List V->Hp->VK->Prop}
theorem x0H(pa:PlainAttrs T)(slot:Slot T name id)(hty:typeOf (.builtin id)=pure (.type "method_descriptor"))(hm:MtR X id r)(ho:PE X o to)(ha:PA X (e::es) t)
  (hbase:ff o name X.env (eval o X.env)=eval o X.env:=by rfl)
  (hfew:((e9 cpos (starEach (e::es) X.env)).all (fun x=>!x.1)&&(backToKw cpos (keywordEach [] X.env)).all (fun x=>x.1.isSome)
   && decide ((e::es).length+([]:List fg).length+(if([]:List fg).isEmpty then 0 else 1)<30))=true:=by rfl)
  (hline:(apos.endLine==cpos.line)=true:=by rfl) (hs:starEach (e::es) X.env=(false,eval e X.env)::starEach es X.env:=by rfl) (hplain:(e9 cpos (starEach es X.env)).any (·.1)=false:=by rfl):
  PE X (.Call (.Attribute o name apos) (e::es) [] cpos) (tBM X.K T r to t):=by
 intro pins s σ H Q I h
 refine wpAny_Call_method_late hbase hfew hline rfl (thn (ho pins s σ H _ I h) fun v s1 ⟨x,H1,I1,r1,ty,q1⟩=>?_)
 obtain⟨h1,h2⟩:=tyV_is I1 r1 ty
 refine⟨T,id,pa,slot,hty,h1,h2,?_⟩
 have hA:=ha cpos pins s1 σ H1 _ I1 q1
 rw[hs]at hA ⊢
 refine Calls.callWith_builtin (by show(false||(e9 cpos (starEach es X.env)).any (·.1))=false;rw[hplain] <;> rfl) (Calls.evalArgs_plain ?_)
 exact thn hA fun us s2 ⟨vs,H2,I2,r2,q2⟩=>hm pins s2 σ H2 x vs v us Q I2 r1 r2 q2
end
def MtM(X:Cx)(id:String)(r:V->List V->Hp->VK->Prop):Prop:=
 ∀(pins:List (Addr×Obj)) (s:Shared) (σ:St) (H:Hp) (x:V) (xs:List V) (v:Value) (us:List Value) (Q:VK),Inv X pins σ H s->RelV x v->Vals xs us->r x xs H Q →
  wpAny (model X.prog X.w) X.A (call (.builtin id) (v::us)) (EP X pins σ Q) X.xe s
theorem Vals.one:∀{x:V} {us:List Value},Vals [x] us->∃u,us=[u]∧RelV x u
 |_,_,.cons r .nil=>⟨_,rfl,r⟩
theorem Vals.eraseIdx:∀{xs:List V} {us:List Value} (i:Nat),Vals xs us->Vals (xs.eraseIdx i) (us.eraseIdx i)
 |_,_,_,.nil=>.nil
 |_,_,0,.cons _ t=>t
 |_,_,i+1,.cons r t=>.cons r (Vals.eraseIdx i t)
theorem Vals.rep{xs:List V}{us:List Value}(h:Vals xs us):∀k:Nat,Vals (am k xs).flatten (am k us).flatten
 |0=>.nil
 |k+1=>by
  rw[bg,bg,bA,bA]
  exact Vals.append h (Vals.rep h k)
theorem y1i{α:Type}:∀(l:List α) (i:Nat),(l.eraseIdx i).length≤l.length
 |[],_=>aj _
 |_::_,0=>dB _
 |_::r,i+1=>Nat.succ_le_succ (y1i r i)
theorem y0n(its:List Value):∀(k:Nat) (acc:List Value),
  eT (fun x1 x2=>x1++x2) acc.toArray (am k its.toArray)=(acc++(am k its).flatten).toArray
 |0,acc=>by simp
 |k+1,acc=>by
  have e:acc.toArray++its.toArray=(acc++its).toArray:=by simp
  have e2:(acc++its)++(am k its).flatten=acc++(am (k+1) its).flatten:=by
   rw[bg,bA,aR]
  rw[←e2,←y0n its k (acc++its),←e,bg,List.foldl_cons]
section
variable{X:Cx}{pins:List (Addr×Obj)}{σ:St}{H:Hp}{s:Shared}{l:Addr}{xs ys:List V}
theorem Inv.lset{its its':List Value}{n:Nat}{f:Array Value->Array Value}{t':Nat}(I:Inv X pins σ H s)(hH:H l=some (.lst xs))
  (e:s.heap.get? l=some { cls:=.type "list",data:=.seq its.toArray n }) (hf:f its.toArray=its'.toArray) (hv:Vals ys its') (hz:ys.length≤sizeLine):
  Inv X pins σ (upd H l (.lst ys)) { s with heap:=s.heap.update l (Obj.mapSeq f),toks:=t' }:=by
 have q:=PySem.IsL.update e f
 rw[hf]at q
 refine I.write (x:=l) (e:=l) (by rw[hH];exact trivial) (.inl rfl) (fun b' u hb hu=>(Heap.get?_update_other s.heap (Obj.mapSeq f) (Ne.symm hb)).trans hu) ⟨_,q⟩ ?_
 exact⟨hz,its',_,hv,q⟩
theorem Inv.lnew{its:List Value}{t':Nat}(I:Inv X pins σ H s)(hv:Vals ys its)(hz:ys.length≤sizeLine):
  Inv X pins σ (upd H s.heap.objs.size (.lst ys)) { s with heap:=s.heap.push { cls:=.type "list",data:=.seq its.toArray },toks:=t' }:=
 I.laid (fun _ _ q=>Heap.get?_push_of_some _ q) (aj _) ⟨hz,its,0,hv,Heap.get?_push_size _ rfl⟩
theorem Inv.fresh(I:Inv X pins σ H s):H s.heap.objs.size=none:=I.hok.fresh (aj _)
theorem Inv.lstM(I:Inv X pins σ H s)(hH:H l=some (.lst xs)):xs.length≤sizeLine∧∃(its:List Value) (n:Nat),Vals xs its∧xs.length=its.length∧s.heap.get? l=some { cls:=.type "list",data:=.seq its.toArray n }:=by
 obtain⟨z,its,n,r,e⟩:=I.hok l _ hH
 exact⟨z,its,n,r,r.length,e⟩
theorem y4C{n:Nat}(h:n≤sizeLine):Builtin.List.listTooLong n=false:=by
 unfold Builtin.List.listTooLong
 exact decide_eq_false (by omega)
end
section
variable{X:Cx}
def y8D:V->List V->Hp->VK->Prop:=fun x vs H Q=>∃l xs y,x = .ref l∧vs=[y]∧H l=some (.lst xs)∧xs.length<sizeLine∧Q .non (upd H l (.lst (xs++[y])))
theorem z3Q:MtM X "list.append" y8D:=by
 intro pins s σ H x vs v us Q I rx rv h
 obtain⟨l,xs,y,rfl,rfl,hH,hz,q⟩:=h
 cases rx
 obtain⟨u,rfl,ru⟩:=rv.one
 obtain⟨z,its,n,r,hl,e⟩:=I.lstM hH
 refine call_meets F.slot_list_append ⟨_,e,rfl⟩ F.entry_list_append (F.args_list_append_2 _ _) (PySem.list_append l its.toArray n u (by rw[au];omega)) ⟨e,?_⟩
 refine⟨.non,_,I.lset (its':=its++[u]) hH e (by simp) (r.append (.cons ru .nil)) ?_,rfl,q⟩
 rw[aC,eC]
 omega
def rExtend:V->List V->Hp->VK->Prop:=fun x vs H Q=>∃l b xs zs,x = .ref l∧vs=[.ref b]∧H l=some (.lst xs)∧H b=some (.lst zs)∧xs.length+zs.length≤sizeLine∧Q .non (upd H l (.lst (xs++zs)))
theorem y9K:MtM X "list.extend" rExtend:=by
 intro pins s σ H x vs v us Q I rx rv h
 obtain⟨l,b,xs,zs,rfl,rfl,hH,hB,hz,q⟩:=h
 cases rx
 obtain⟨u,rfl,ru⟩:=rv.one
 cases ru
 obtain⟨z,its,n,r,hl,e⟩:=I.lstM hH
 obtain⟨z2,its2,n2,r2,hl2,e2⟩:=I.lstM hB
 have hsz:its.toArray.size+its2.toArray.size≤sizeLine:=by rw[au,au];omega
 have hlong:¬ (!its.toArray.isEmpty&&Builtin.List.listTooLong (its.toArray.size+its2.toArray.size))=true:=by
  rw[y4C hsz,Bool.and_false]
  exact ak
 refine call_meets F.slot_list_extend ⟨_,e,rfl⟩ F.entry_list_extend (F.args_list_extend_2 _ _)
  (AutoSeq1.list_extend_list_list_0 l its.toArray n b its2.toArray n2 hlong (by rw[au];omega) (by omega)) ⟨e,e2,?_⟩
 refine⟨.non,_,I.lset (its':=its++its2) hH e (by simp) (r.append r2) ?_,rfl,q⟩
 rw[aC]
 omega
def rPopAt:V->List V->Hp->VK->Prop:=fun x vs H Q=>∃l xs i k y,x = .ref l∧vs=[.int i]∧H l=some (.lst xs)∧-(2 ^ 63)≤i∧i<2 ^ 63∧seqIndex? i xs.length=some k∧xs[k]? = some y∧Q y (upd H l (.lst (xs.eraseIdx k)))
theorem x0r:MtM X "list.pop" rPopAt:=by
 intro pins s σ H x vs v us Q I rx rv h
 obtain⟨l,xs,i,k,y,rfl,rfl,hH,h1,h2,hk,hy,q⟩:=h
 cases rx
 obtain⟨u,rfl,ru⟩:=rv.one
 obtain⟨t,rfl⟩:=ru
 obtain⟨z,its,n,r,hl,e⟩:=I.lstM hH
 obtain⟨w,hw,rw'⟩:=r.get hy
 refine call_meets F.slot_list_pop ⟨_,e,rfl⟩ F.entry_list_pop (F.args_list_pop_2 _ _)
  (MeetsSeq.list_pop_at l its.toArray n i t k w (fitsIndex_both h1 h2) (by rw[au,←hl];exact hk) (by rw[←Array.getElem?_toList];exact hw) (by rw[au];omega)) ⟨e,?_⟩
 refine⟨y,_,I.lset (its':=its.eraseIdx k) hH e ?_ (r.eraseIdx k) ?_,rw',q⟩
 ·show its.toArray.eraseIdxIfInBounds k=(its.eraseIdx k).toArray
  rw[List.eraseIdxIfInBounds_toArray]
 ·have:=y1i xs k
  omega
def rCat:R2:=fun x y H Q=>∃l b xs zs,x = .ref l∧y = .ref b∧H l=some (.lst xs)∧H b=some (.lst zs)∧xs.length+zs.length≤sizeLine∧∀p,H p=none->Q (.ref p) (upd H p (.lst (xs++zs)))
theorem y8N:OpR X (fq .Add) rCat:=by
 intro pins s σ H x y v u Q I rx ry h
 obtain⟨l,b,xs,zs,rfl,rfl,hH,hB,hz,q⟩:=h
 cases rx
 cases ry
 obtain⟨z,its,n,r,hl,e⟩:=I.lstM hH
 obtain⟨z2,its2,n2,r2,hl2,e2⟩:=I.lstM hB
 refine PySem.P.add_list e e2 ?_ (by rw[au,au];omega)
 have ea:its.toArray++its2.toArray=(its++its2).toArray:=by simp
 rw[ea]
 exact⟨.ref _,_,I.lnew (t':=s.toks) (r.append r2) (by rw[aC];omega),rfl,q _ I.fresh⟩
def rRep:R2:=fun x y H Q=>∃l k xs,x = .ref l∧y = .int k∧H l=some (.lst xs)∧-(2 ^ 63)≤k∧k<2 ^ 63∧xs.length*k.toNat≤sizeLine ∧
 ∀p,H p=none->Q (.ref p) (upd H p (.lst (am k.toNat xs).flatten))
theorem len_rep{α:Type}(xs:List α)(k:Nat):(am k xs).flatten.length=k*xs.length:=by
 induction k with
 |zero=>simp
 |succ k ih=>rw[bg,bA,aC,ih,Nat.succ_mul,Nat.add_comm]
theorem op_rep:OpR X (fq .Mult) rRep:=by
 intro pins s σ H x y v u Q I rx ry h
 obtain⟨l,k,xs,rfl,rfl,hH,h1,h2,hz,q⟩:=h
 cases rx
 obtain⟨t,rfl⟩:=ry
 obtain⟨z,its,n,r,hl,e⟩:=I.lstM hH
 have hlen:its.toArray.size*k.toNat≤sizeLine:=by rw[au,←hl];exact hz
 have hcap:¬ its.toArray.size*k.toNat>(2 ^ 63 - 1) / 8:=by
  have:(sizeLine:Nat)≤(2 ^ 63 - 1) / 8:=by decide
  omega
 have hfit:¬ (!Builtin.List.listFitsIndex k)=true:=by
  rw[fitsIndex_both h1 h2]
  exact ak
 have hlong:¬ Builtin.List.listTooLong (its.toArray.size*k.toNat)=true:=by
  rw[y4C hlen]
  exact ak
 have hnew:eT (fun x1 x2=>x1++x2) #[] (am (if its.toArray.isEmpty=true then 0 else k.toNat) its.toArray)=(am k.toNat its).flatten.toArray:=by
  have f0:∀m:Nat,eT (fun x1 x2=>x1++x2) #[] (am m its.toArray)=(am m its).flatten.toArray:=fun m=>by
   have:=y0n its m []
   rw[cB]at this
   exact this
  rw[f0]
  cases its with
  |nil=>simp
  |cons a r'=>rw[if_neg (by simp)]
 refine wpAny_binaryOp_repeat_ref (T := "list") (U := "int") (by decide) ⟨_,e,rfl⟩ (fun s'=>typeIs_int s' k t) noFill_list_mul F.fills_int_mul F.slot_int_rmul repeat_list F.slot_int_index.lookup
  (call_meets F.slot_int_rmul (typeIs_int s k t) F.entry_int_rmul (F.args_int_rmul_2 _ _) (int___rmul___int_list k t l its.toArray n)
   ⟨e,rfl,⟨_,e,rfl⟩,call_meets F.slot_list_mul ⟨_,e,rfl⟩ F.entry_list_mul (F.args_list_mul_2 _ _) (AutoListH.list___mul___list_int_3 l its.toArray n k t hfit hcap hlong) ⟨e,?_⟩⟩)
 rw[hnew]
 exact⟨.ref _,_,I.lnew (t':=s.toks) (r.rep k.toNat) (by rw[len_rep,Nat.mul_comm];exact hz),rfl,q _ I.fresh⟩
end
section
end
section
end
end L2
namespace Att
open PySem PySem.W PySem.Calls PyProof.Rows
theorem z6Y{P:Params}{h:Heap}:∀(ns:List Int) (vs:List Value),WellAll P h vs (ns.map WData.int)->IntsAre vs ns:=by
 intro ns
 induction ns with
 |nil=>
  intro vs w
  rw[cD]at w
  cases w
  exact .nil
 |cons n ns ih=>
  intro vs w
  rw[ay]at w
  cases w with
  |cons a b=>
   cases a
   exact .cons _ _ (ih _ b)
theorem y7I{l:OpenLaw}{n:Nat}(hn:l.most=some n){P:Params}{h:Heap}{args:List WData}{vals:List Value}
  (hpre:l.row.toRowW.claim.pre args=true) (hwl:WellAll P h vals args):
  ∃a vs ns,vals=[Value.ref a]∧args=[WData.list (ns.map WData.int)]∧h.get? a=some { cls:=.type "list",data:=.seq vs.toArray }∧IntsAre vs ns∧ns.length≤n:=by
 have hsh:WShape.hasAll [] args [.list .int]=true:=(pre_splitW hpre).1
 have hc:l.pre.holds [] { args:=args }=true:=(pre_splitW hpre).2
 obtain⟨d,r,rfl,h1,h2⟩:=hasAllW_cons hsh
 obtain rfl:=hasAllW_nil h2
 obtain⟨xs,rfl,h3⟩:=hasW_list h1
 obtain⟨ns,rfl⟩:=items_int h3
 have hlen:ns.length≤n:=by
  unfold OpenLaw.pre at hc
  have h4:(WTm.not (.lt (.lit (.int (n:Int))) (.len (.arg 0)))).holds [] { args:=[.list (ns.map .int)] }=true:=by
   have h4:=(holds_andW hc).1
   rw[hn]at h4
   exact h4
  have h5:=condW_of h4 (w_not (w_lt w_lit (w_len_list (w_arg rfl))))
  rw[ah]at h5
  refine Nat.le_of_not_lt fun q=>?_
  have q':(n:Int)<((ns.length:Nat):Int):=by omega
  first
   | (rw[decide_eq_true q']at h5;exact absurd h5 (by decide))
   | (simp at h5;omega)
 cases hwl with
 |cons w1 w2=>
  cases w2
  cases w1 with
  |list ho hall=>exact⟨_,_,ns,rfl,rfl,ho,z6Y ns _ hall,hlen⟩
theorem y6Y(l:OpenLaw)(args:List WData):l.row.toRowW.claim.post args (.bool true) args=true:=
 postW_of (r:=l.row.toRowW) (X:=(true==true))
  (show WShape.has [] (.bool true) .bool=true by first | rfl | decide | simp[WShape.has,WShape.arms,WShape.armsAll])
  (show(WTm.eq .res (.lit (.bool true))).value [] { args:=args,res:=some (.bool true),after:=args }=some (.bool (true==true)) from w_eq_bool (w_res rfl) w_lit) rfl
theorem attach_call{l:OpenLaw}{n:Nat}{q:dw}{loose:List Str}{XP:(Str->Option Value)->Heap->Prop}{YP:eX->Heap->Prop}{d:DefRec}
  (hn:l.most=some n) (hdf:d.params.defaults=[])
  (call:∀(w:eX) (s₀ s₁:Shared) (mg mb:Str->Option Value) (fa:Addr) (o:Obj) (pm cd doc:Value) (a:Addr) (vs:List Value) (ns:List Int),
   Ground q loose [] XP w s₀ mg mb s₁.heap->YP w s₁.heap →
   s₁.heap.get? fa=some o->o.data = .func (docDef d.name d.params d.body d.scope pm cd doc)->s₁.heap.CodeRec cd d.name->mg d.name=some (.ref fa) →
   s₁.heap.get? a=some { cls:=.type "list",data:=.seq vs.toArray }->IntsAre vs ns->ns.length≤n->s₁.gens = #[] →
   codeAny (model l.prog w) callerA (.call (.ref fa) ⟨[.ref a],[]⟩) (fun r s'=>r = .ok (.ret (.bool true))∧OldK s₁.heap s'.heap∧s'.os=s₁.os∧AllBare s'.gens) s₁):
  WalkO q loose XP YP l.row.toRowW d [] (fun f vs=>PySem.call f vs):=by
 intro w s₀ s₁ mg mb G Y fa o pm cd doc dV kV ho hd hcd hD hmg hg args vals as hpre hlay hrd hwl hlo
 obtain rfl:dV = .none:=Dflts.none hD hdf
 obtain rfl:kV = .none:=Dflts.noKw hD
 obtain⟨a,vs,ns,rfl,rfl,hobj,hints,hlen⟩:=y7I hn hpre hwl
 refine enter_call (codeAny_mono (call w s₀ s₁ mg mb fa o pm cd doc a vs ns G Y ho (fd_plain hd) hcd hmg hobj hints hlen hg) fun r s' hq=>?_)
 obtain⟨rfl,h2,h3,h4⟩:=hq
 exact⟨.inl ⟨.bool true,.bool true,[],rfl,fun _=>rfl,.bool true,y6Y l _,fun _=>⟨List.Pairwise.nil,fun _ hm=>(nomatch hm)⟩⟩,h2,h3,h4⟩
section
def ledger(h:Heap)(L d:Addr):List (Addr×Obj):=(ad h.objs.size).filterMap fun a=>if a=L∨a=d then none else(h.get? a).map fun o=>(a,o)
end
end Att
namespace L2
open PySem PySem.Spec PyProof.Rows
theorem y1t:∀{vs:List Value} {ns:List Int},IntsAre vs ns->Vals (ns.map V.int) vs
 |_,_,.nil=>.nil
 |_,_,.cons n t h=>.cons ⟨t,rfl⟩ (y1t h)
def Only(H:Hp):Prop:=∀b,H b=none∨∃o xs,H b=some (.frz o (.lst xs))
theorem x1b{P:dw}{w:eX}{K:aa}{mg mb:Str->Option Value}{CX:CXT}{k:Nat}{fa a:Addr}{fd:eY}{x:Str}{sp:Sp}{s₁:Shared}{vs:List Value}{ns:List Int}
  (KX:K.In s₁.heap) (hns:s₁.heap.Ns mainGlobals mg) (hb:s₁.heap.Ns builtinsNs mb) (hbb:∀x:Str,x ≠ "__name__" → mb x=fo x) (hlim:s₁.heap.NoLimit) (hg:s₁.gens = #[])
  (ha:s₁.heap.get? a=some { cls:=.type "list",data:=.seq vs.toArray }) (hi:IntsAre vs ns) (hl:ns.length≤sizeLine) (hr:Room k callerA)
  (F:∀base:Heap,K.In base->base.Ns mainGlobals mg->FnOk P w K mg base CX k fa fd [x] sp) (hbind:∀(s:Shared) (u:Value),BindsTo s fd ⟨[u],[]⟩ [(x,u)])
  (hsp:∀H:Hp,Only H->SqL K H a (ns.map V.int)->sp [.ref a] H (fun v _=>v = .bl true) fun _ _ _=>False)
  (hCX:∀H e s',CX [] H s₁ (fun _ _ _=>False) e s'->False):
  codeAny (model P w) callerA (.call (.ref fa) ⟨[.ref a],[]⟩) (fun r s'=>r = .ok (.ret (.bool true))∧OldK s₁.heap s'.heap∧s'.os=s₁.os∧AllBare s'.gens) s₁:=by
 have rv:=y1t hi
 have lenV:=hi.length
 have core:∀H:Hp,Only H->SqL K H a (ns.map V.int)->HOk P w H s₁.heap->(∀b,H b≠none->b=a)->(H a≠none->K.lookup a=none) →
   codeAny (model P w) callerA (.call (.ref fa) ⟨[.ref a],[]⟩) (fun r s'=>r = .ok (.ret (.bool true))∧OldK s₁.heap s'.heap∧s'.os=s₁.os∧AllBare s'.gens) s₁:=by
  intro H hO hS hok hA hK
  have base_of:∀{b:Addr} {o:Obj},s₁.heap.get? b=some o->H b=none->(x2f s₁.heap H).get? b=some o:=fun e n=>x1d e n
  have noA:∀{b:Addr} {o:Obj} {es:Array DictEntry} {ep:Nat},s₁.heap.get? b=some o->o.data = .dict es ep->H b=none:=fun {b o es ep} e d=>by
   cases q:H b with
   |none=>rfl
   |some u=>
    have e':b=a:=hA b (by rw[q];simp)
    subst e'
    rw[ha]at e;cases e
    have d':Data.seq vs.toArray _=Data.dict es ep:=d
    cases d'
  have nsK:∀{b:Addr} {m:Str->Option Value},s₁.heap.Ns b m->(x2f s₁.heap H).Ns b m:=fun {b m} ⟨o,es,ep,e,d,r⟩=>⟨o,es,ep,base_of e (noA e d),d,r⟩
  have hKb:K.In (x2f s₁.heap H):=fun b o e=>base_of (KX b o e) (by
   cases q:H b with
   |none=>rfl
   |some u=>
    have e':b=a:=hA b (by rw[q];simp)
    subst e'
    rw[hK (by rw[q];simp)]at e;cases e)
  have hM:Mod K mg (x2f s₁.heap H):=⟨hKb,nsK hns,⟨mb,nsK hb,hbb⟩,let⟨mc,h1,h2⟩:=hlim;⟨mc,nsK h1,h2⟩⟩
  have e0:Env0 P w K mg (x2f s₁.heap H) callerA [] s₁ H:=⟨rfl,hM,fun b o e=>of_hidT e,Nat.le_of_eq (y9u _ _),trivial,fun b hb=>absurd (show b∈([]:List Addr) from hb) (by simp),hok,.of_eq hg⟩
  refine codeAny_mono ((F _ hKb (nsK hns)).run callerA [] s₁ H ⟨[.ref a],[]⟩ [.ref a] [.ref a] _ _ hr e0 (hbind s₁ (.ref a)) (.cons rfl .nil) (hsp H hO hS)) fun r s' h=>?_
  cases r with
  |error e=>exact(hCX H e s' h).elim
  |ok fl=>
   cases fl with
   |next=>exact False.elim h
   |brk=>exact False.elim h
   |cont=>exact False.elim h
   |ret u=>
    obtain⟨v,H',os,bare,un,hok',r',q⟩:=h
    have q':v = .bl true:=q
    subst q'
    obtain rfl:u=Value.bool true:=r'
    refine⟨rfl,OldK.of_keep fun b o e=>?_,os,bare⟩
    cases q:H b with
    |none=>exact un.keep b o e q (by intro z;exact absurd (show b∈([]:List Addr) from z) (by simp)) (by simp)
    |some u=>
     rcases hO b with z | ⟨ob,xs,z⟩
     ·rw[q]at z;cases z
     ·have z2:=un.frzs b ob _ z
      obtain⟨e1,_⟩:=hok b _ z
      obtain⟨e2,_⟩:=hok' b _ z2
      rw[e]at e1;cases e1
      exact e2
 cases hk:K.lookup a with
 |some o=>
  have e:=KX a o hk
  rw[ha]at e
  cases e
  refine core (fun _=>none) (fun _=>.inl rfl) (.inr ⟨_,vs.toArray,_,hk,rfl,rfl,rfl,by rw[au,lenV];exact hl,by simpa using rv⟩) (fun b u z=>by have z':(none:Option HO)=some u:=z;cases z') (fun b z=>absurd rfl z) fun z=>absurd rfl z
 |none=>
  refine core (fun b=>if b=a then some (.frz { cls:=.type "list",data:=.seq vs.toArray } (.lst (ns.map V.int)))else none) (fun b=>?_) (.inl (.inr ⟨{ cls:=.type "list",data:=.seq vs.toArray },if_pos rfl⟩)) (fun b u z=>?_) (fun b z=>?_) fun _=>hk
  ·by_cases hb:b=a
   ·exact .inr ⟨_,_,if_pos hb⟩
   ·exact .inl (if_neg hb)
  ·by_cases hb:b=a
   ·have z':=(if_pos hb).symm.trans z
    cases z'
    subst hb
    exact⟨ha,by rw[ah];exact hl,vs,_,rv,ha⟩
   ·have z':=(if_neg hb).symm.trans z
    cases z'
  ·by_cases hb:b=a
   ·exact hb
   ·exact absurd (if_neg hb) z
abbrev KOf{K:aa}{h:Heap}(_:K.In h):aa:=K
theorem walk_of{l:dh}{n k:Nat}{q:dw}{loose:List Str}{XP:(Str->Option Value)->Heap->Prop}{YP:eX->Heap->Prop}{d:DefRec}{K:Params->aa}{CX:eX->CXT}{sp:eX->Sp}{x:Str}
  (hn:l.most=some n) (hn2:n≤sizeLine) (hdf:d.params.defaults=[]) (hr:Room k callerA)
  (hY:∀(w:eX) (h:Heap),YP w h->(K w.params).In h)
  (F:∀(w:eX) (mg:Str->Option Value) (fa:Addr) (h:Heap),(K w.params).In h->h.Ns mainGlobals mg->mg d.name=some (.ref fa) →
   ∃fd:eY,(∀(s:Shared) (u:Value),BindsTo s fd ⟨[u],[]⟩ [(x,u)]) ∧
    ∀base:Heap,(K w.params).In base->base.Ns mainGlobals mg->FnOk l.prog w (K w.params) mg base (CX w) k fa fd [x] (sp w))
  (hsp:∀(w:eX) (H:Hp) (a:Addr) (ns:List Int),ns.length≤n->Only H->SqL (K w.params) H a (ns.map V.int)->sp w [.ref a] H (fun v _=>v = .bl true) fun _ _ _=>False)
  (hCX:∀(w:eX) (H:Hp) (s:Shared) (e:Value) (s':Shared),CX w [] H s (fun _ _ _=>False) e s'->False):
  PySem.W.WalkO q loose XP YP l.row.toRowW d [] (fun f vs=>PySem.call f vs):=by
 refine Att.attach_call hn hdf fun w s₀ s₁ mg mb fa o pm cd doc a vs ns G Y ho hd hcd hmg hobj hints hlen hg=>?_
 have KX:=hY w _ Y
 obtain⟨fd,hb,hF⟩:=F w mg fa _ KX G.T.g hmg
 exact x1b KX G.T.g G.T.b G.T.builtins G.T.nolimit hg hobj hints (aF hlen hn2) hr hF hb (fun H hO hS=>hsp w H a ns hlen hO hS) fun H e s'=>hCX w H s₁ e s'
def z2x(s:Stmt):Arguments:=match s with
 |.FunctionDef _ a _ _ _ _ _ _ _ _=>a
 |_=>{ posonlyargs:=[],args:=[],vararg:=none,kwonlyargs:=[],kw_defaults:=[],kwarg:=none,defaults:=[] }
def z1f(s:Stmt):List Stmt:=match s with
 |.FunctionDef _ _ b _ _ _ _ _ _ _=>b
 |_=>[]
def z0e(s:Stmt):fu:=match s with
 |.FunctionDef _ _ _ _ _ _ sc _ _ _=>sc
 |_=>{ kind:=.function,names:=[],isGenerator:=false,isCoroutine:=false }
abbrev CX0:CXT:=fun _ _ _ _ _ _=>False
abbrev E0:XK:=fun _ _ _=>False
theorem pass0{X:Cx}:y9E CX0 X E0:=fun _ _ _ _ _ _ _ h=>h.elim
structure Fun(K:aa)(x qual:Str)(st:Stmt)(f:Addr)(fd:eY):Prop where
 ex:∃(oc:Value) (od:Option Addr) (kV doc pm:Value) (an:Option Addr) (cdv ct:Value) (osl:Array (Option Value)),
  fd=bu x qual (z2x st) (z1f st) (z0e st) .none kV doc pm an cdv ct∧K.lookup f=some ⟨oc,od,.func fd,osl⟩∧cT K cdv qual=true
 kp:bE K (.ref f)=true
section
variable{P:dw}{w:eX}{K:aa}{mg:Str->Option Value}{base:Heap}
theorem Fun.ok{x qual:Str}{st:Stmt}{f:Addr}{fd:eY}{N ps:List Str}{k:Nat}{sp:Sp}(F:Fun K x qual st f fd)(S:FnScope N ps (z0e st))(len:∀vs H Q E,sp vs H Q E->vs.length=ps.length)
  (hbody:∀(cdv:Value) (A:Around) (outer:List Env) (s:Shared) (H:Hp) (vs:List V) (Q:VK) (E:XK),Room k (A.deeper (envOfC qual (z0e st) s.heap.objs.size f cdv))->sp vs H Q E →
   ∃t,PSs (y1N CX0 P w K mg base N qual (z0e st) f cdv A outer s H E).nox (z1f st) t∧t { nx:=fun _ H'=>Q .non H',rt:=Q } (z3Y N vs) H):FnOk P w K mg base CX0 (k+1) f fd ps sp:=by
 obtain⟨oc,od,kV,doc,pm,an,cdv,ct,osl,rfl,lk,hcd⟩:=F.ex
 refine fn_of lk hcd S len fun A outer s H vs Q E hr hsp=>?_
 obtain⟨t,h,q⟩:=hbody cdv A outer s H vs Q E hr hsp
 exact⟨t,h.nox,q⟩
theorem Fun.binds{x qual:Str}{st:Stmt}{f:Addr}{fd:eY}{ps:List Str}(F:Fun K x qual st f fd)
  (h:∀(kV doc pm:Value) (an:Option Addr) (cdv ct:Value) (us:List Value),us.length=ps.length->bindArgs (bu x qual (z2x st) (z1f st) (z0e st) .none kV doc pm an cdv ct) ⟨us,[]⟩=pure (ps.zip us)):Binds K fd ps []:=by
 obtain⟨oc,od,kV,doc,pm,an,cdv,ct,osl,rfl,lk,hcd⟩:=F.ex
 exact .all (h kV doc pm an cdv ct)
theorem fun_mk{x qual:Str}{st:Stmt}{f:Addr}{oc:Value}{od an:Option Addr}{osl:Array (Option Value)}{kV doc pm cdv ct:Value}(l:K.lookup f=some ⟨oc,od,.func (bu x qual (z2x st) (z1f st) (z0e st) .none kV doc pm an cdv ct),osl⟩)
  (c:cT K cdv qual=true) (k:bE K (.ref f)=true):Fun K x qual st f (bu x qual (z2x st) (z1f st) (z0e st) .none kV doc pm an cdv ct):=⟨⟨oc,od,kV,doc,pm,an,cdv,ct,osl,rfl,l,c⟩,k⟩
end
theorem z7k{n:Nat}(h:n≤1000):n<sizeLine:=c7 h (by decide)
section
variable{X:Cx}
theorem pv(i:Nat){x:Str}{pos:Pos}(hN:X.N[i]? = some x:=by rfl)(hv:Vis X.env.scope x:=by first | exact Or.inl rfl | exact Or.inr (Or.inl rfl) | exact Or.inr (Or.inr rfl))(hd:(x==("__debug__" : Str))=false:=by decide)
  (hcd:(x==("__classdict__" : Str))=false:=by decide):PE X (.Name x pos) (y5k i):=pe_var hN hv hd hcd
end
theorem iteF{A B:Prop}(h:B):if false=true then A else B:=by
 rw[if_neg ak]
 exact h
theorem iteT{A B:Prop}(h:A):if true=true then A else B:=by
 rw[if_pos rfl]
 exact h
def Same(H H':Hp):Prop:=∀b o,H b=some o->H' b=some o
theorem Same.refl(H:Hp):Same H H:=fun _ _ h=>h
theorem Same.trans{H H1 H2:Hp}(a:Same H H1)(b:Same H1 H2):Same H H2:=fun c o h=>b c o (a c o h)
theorem Same.free{H H':Hp}(e:Same H H'){l:Addr}(h:H' l=Option.none):H l=Option.none:=by
 cases q:H l with
 |none=>rfl
 |some o=>
  rw[e l o q]at h
  cases h
section
variable{κ:Type}[DecidableEq κ]
def y3j(kvs:List (κ×V))(k:κ):Option V:=(kvs.find? fun kv=>decide (kv.1=k)).map (·.2)
def z7K(kvs:List (κ×V))(k:κ)(v:V):List (κ×V):=
 if(kvs.any fun kv=>decide (kv.1=k))=true then kvs.map (fun kv=>if kv.1=k then(kv.1,v)else kv)else kvs++[(k,v)]
theorem z8B{p:κ×V}{r:List (κ×V)}{k:κ}(e:p.1=k):y3j (p::r) k=some p.2:=by simp[y3j,bH,e]
theorem z8v{p:κ×V}{r:List (κ×V)}{k:κ}(e:¬ p.1=k):y3j (p::r) k=y3j r k:=by simp[y3j,bH,e]
theorem z8U(k:κ):∀kvs:List (κ×V),(kvs.any fun kv=>decide (kv.1=k))=(y3j kvs k).isSome
 |[]=>rfl
 |p::r=>by
  rw[cP]
  by_cases e:p.1=k
  ·simp only[z8B e,decide_eq_true e,Bool.true_or,eG]
  ·rw[z8v e,decide_eq_false e,Bool.false_or];exact z8U k r
theorem z4i(kvs:List (κ×V))(k:κ)(v:V):(z7K kvs k v).length≤kvs.length+1:=by
 unfold z7K
 split
 ·rw[ah];omega
 ·rw[aC,aX,dG];omega
theorem RelO.isSome_eq{o:Option V}{u:Option Value}(r:RelO o u):o.isSome=u.isSome:=by
 cases o with
 |none=>cases u with
  |none=>rfl
  |some _=>exact(show False from r).elim
 |some _=>cases u with
  |none=>exact(show False from r).elim
  |some _=>rfl
theorem KV.val{kvs:List (κ×V)}{vs:List (κ×Value)}(r:KV kvs vs)(k:κ):RelO (y3j kvs k) (valueAt vs k):=by
 unfold KV at r
 induction r with
 |nil=>exact True.intro
 | @cons p q ps qs h t ih=>
  obtain⟨h1,h2⟩:=h
  by_cases e:p.1=k
  ·have e':q.1=k:=h1.symm.trans e
   have b:valueAt (q::qs) k=some q.2:=by simp[valueAt,bH,e']
   rw[z8B e,b];exact h2
  ·have e':¬ q.1=k:=fun z=>e (h1.trans z)
   have b:valueAt (q::qs) k=valueAt qs k:=by simp[valueAt,bH,e']
   rw[z8v e,b];exact ih
theorem KV.any{kvs:List (κ×V)}{vs:List (κ×Value)}(r:KV kvs vs)(k:κ):(kvs.any fun kv=>decide (kv.1=k))=vs.any fun kv=>decide (kv.1=k):=by
 unfold KV at r
 induction r with
 |nil=>rfl
 |cons h t ih=>rw[cP,cP,ih,h.1]
theorem KV.repl{kvs:List (κ×V)}{vs:List (κ×Value)}(r:KV kvs vs)(k:κ){y:V}{u:Value}(ry:RelV y u):
  KV (kvs.map fun kv=>if kv.1=k then(kv.1,y)else kv) (vs.map fun kv=>if kv.1=k then(kv.1,u)else kv):=by
 unfold KV at r ⊢
 induction r with
 |nil=>exact .nil
 | @cons p q ps qs h t ih=>
  rw[ay,ay]
  refine .cons ?_ ih
  obtain⟨h1,h2⟩:=h
  by_cases e:p.1=k
  ·rw[if_pos e,if_pos (h1.symm.trans e)];exact⟨h1,ry⟩
  ·rw[if_neg e,if_neg (fun z=>e (h1.trans z))];exact⟨h1,h2⟩
theorem KV.put{kvs:List (κ×V)}{vs:List (κ×Value)}(r:KV kvs vs)(k:κ){y:V}{u:Value}(ry:RelV y u):KV (z7K kvs k y) (stored vs k u):=by
 unfold z7K stored
 rw[r.any k]
 by_cases e:(vs.any fun kv=>decide (kv.1=k))=true
 ·rw[if_pos e,if_pos e];exact r.repl k ry
 ·rw[if_neg e,if_neg e];exact Paired.snoc r ⟨rfl,ry⟩
theorem KV.keys{kvs:List (κ×V)}{vs:List (κ×Value)}(r:KV kvs vs):kvs.map (·.1)=vs.map (·.1):=by
 unfold KV at r
 induction r with
 |nil=>rfl
 |cons h t ih=>rw[ay,ay,ih,h.1]
theorem KV.length{kvs:List (κ×V)}{vs:List (κ×Value)}(r:KV kvs vs):kvs.length=vs.length:=Paired.length r
end
theorem x0c{P:dw}{w:eX}{k:Key}{u:Value}(r:RelV (kV k) u):(z1b P w).is k u=true:=by
 cases k with
 |inl i=>obtain⟨t,e⟩:=(show ∃t,u=Value.int i t from r);subst e;exact y2x P w i t
 |inr x=>obtain⟨t,e⟩:=(show ∃t,u=Value.str x t from r);subst e;exact y2F P w x t
theorem y1w{P:dw}{w:eX}:∀{ks:List Key} {us:List Value},Vals (ks.map kV) us->ItemsAre (z1b P w) ks us
 |[],_,r=>by rw[cD]at r;cases r;exact .nil
 |k::ks,_,r=>by
  rw[ay]at r
  cases r with
  |cons h t=>exact .cons (x0c h) (y1w t)
abbrev KT(H:Hp):List (List Key×V)->List (List Key×Addr×Value)->Prop:=Paired fun p q=>p.1=q.1∧H q.2.1=some (.tup (p.1.map kV))∧RelV p.2 q.2.2
theorem KT.val{H:Hp}{kvs:List (List Key×V)}{xs:List (List Key×Addr×Value)}(r:KT H kvs xs)(k:List Key):RelO (y3j kvs k) ((atKey xs k).map (·.2)):=by
 induction r with
 |nil=>exact True.intro
 | @cons p q ps qs h t ih=>
  obtain⟨h1,_,h2⟩:=h
  by_cases e:p.1=k
  ·have e':q.1=k:=h1.symm.trans e
   have b:atKey (q::qs) k=some q.2:=by simp[atKey,bH,e']
   rw[z8B e,b];exact h2
  ·have e':¬ q.1=k:=fun z=>e (h1.trans z)
   have b:atKey (q::qs) k=atKey qs k:=by simp[atKey,bH,e']
   rw[z8v e,b];exact ih
theorem KT.repl{H:Hp}{kvs:List (List Key×V)}{xs:List (List Key×Addr×Value)}(r:KT H kvs xs)(k:List Key){y:V}{u:Value}(ry:RelV y u):
  KT H (kvs.map fun kv=>if kv.1=k then(kv.1,y)else kv) (xs.map (putAt k u)):=by
 induction r with
 |nil=>exact .nil
 | @cons p q ps qs h t ih=>
  rw[ay,ay]
  refine .cons ?_ ih
  obtain⟨h1,h2,h3⟩:=h
  unfold putAt
  by_cases e:p.1=k
  ·rw[if_pos e,if_pos (h1.symm.trans e)];exact⟨h1,h2,ry⟩
  ·rw[if_neg e,if_neg (fun z=>e (h1.trans z))];exact⟨h1,h2,h3⟩
theorem KT.put{H:Hp}{kvs:List (List Key×V)}{xs:List (List Key×Addr×Value)}(r:KT H kvs xs)(k:List Key){b:Addr}{y:V}{u:Value}(hb:H b=some (.tup (k.map kV)))(ry:RelV y u):
  KT H (z7K kvs k y) (storedH xs k b u):=by
 have e:(kvs.any fun kv=>decide (kv.1=k))=(atKey xs k).isSome:=by
  rw[z8U,(r.val k).isSome_eq,cK]
 unfold z7K storedH
 rw[e]
 by_cases q:(atKey xs k).isSome=true
 ·rw[if_pos q,if_pos q];exact r.repl k ry
 ·rw[if_neg q,if_neg q];exact Paired.snoc r ⟨rfl,hb,ry⟩
theorem KT.keeps{H H':Hp}{kvs:List (List Key×V)}{xs:List (List Key×Addr×Value)}(r:KT H kvs xs)(ht:∀b ys,H b=some (.tup ys)->H' b=some (.tup ys)):KT H' kvs xs:=
 Paired.mapP r fun _ _ z=>⟨z.1,ht _ _ z.2.1,z.2.2⟩
section
variable{P:dw}{w:eX}{H:Hp}{h:Heap}{a:Addr}
theorem rd_of{u:HO}(ok:HOk P w H h)(e:Rd H a u):ObjOk P w H h a u:=e.ok ok
theorem dk_rd{kvs:List (Key×V)}(ok:HOk P w H h)(e:Rd H a (.dK kvs)):kvs.length≤sizeLine∧(a==sysModules)=false∧∃vs,KV kvs vs∧h.DictOf (z1b P w) a vs:=
 show ObjOk P w H h a (.dK kvs) from rd_of ok e
theorem dk_of{kvs:List (Key×V)}(ok:HOk P w H h)(e:H a=some (.dK kvs)):kvs.length≤sizeLine∧(a==sysModules)=false∧∃vs,KV kvs vs∧h.DictOf (z1b P w) a vs:=dk_rd ok (.inl e)
theorem y4K{ks:List Key}(ok:HOk P w H h)(e:H a=some (.tup (ks.map kV))):(tupleKind (z1b P w)).is h ks a:=by
 obtain⟨_,its,r,o,h1,h2,n,h3⟩:=(show ObjOk P w H h a (.tup (ks.map kV)) from ok a _ e)
 exact⟨o,its.toArray,n,h1,h2.1,h3,by simpa using y1w r⟩
theorem dt_rd{kvs:List (List Key×V)}(ok:HOk P w H h)(e:Rd H a (.dT kvs)):kvs.length≤sizeLine∧(a==sysModules)=false ∧
  ∃xs,KT H kvs xs∧h.DictOfH (tupleKind (z1b P w)) a xs:=by
 obtain⟨z,y,xs,r,o,es,ep,h1,h2,h3,h4,h5⟩:=(show ObjOk P w H h a (.dT kvs) from rd_of ok e)
 refine⟨z,y,xs,r,o,es,ep,h1,h2,h3,h4,fun x hx=>?_,h5⟩
 have all:∀{l:List (List Key×V)} {m:List (List Key×Addr×Value)},KT H l m->∀x∈m,(tupleKind (z1b P w)).is h x.1 x.2.1:=by
  intro l m q
  induction q with
  |nil=>intro x hx;exact nomatch hx
  | @cons p q ps qs hq t ih=>
   intro x hx
   rcases ao.mp hx with e | hx
   ·subst e
    exact y4K ok (by rw[←hq.1];exact hq.2.1)
   ·exact ih x hx
 exact all r x hx
theorem dt_of{kvs:List (List Key×V)}(ok:HOk P w H h)(e:H a=some (.dT kvs)):kvs.length≤sizeLine∧(a==sysModules)=false ∧
  ∃xs,KT H kvs xs∧h.DictOfH (tupleKind (z1b P w)) a xs:=dt_rd ok (.inl e)
end
def DGet(H:Hp)(a:Addr)(y:V)(r:Option V):Prop:=
 (∃kvs k,Rd H a (.dK kvs)∧y=kV k∧r=y3j kvs k)∨∃kvs k b,Rd H a (.dT kvs)∧y = .ref b∧H b=some (.tup (k.map kV))∧r=y3j kvs k
def DPut(H:Hp)(a:Addr)(y v:V)(H':Hp):Prop:=
 (∃kvs k,H a=some (.dK kvs)∧y=kV k∧kvs.length<sizeLine∧H'=upd H a (.dK (z7K kvs k v))) ∨
 ∃kvs k b,H a=some (.dT kvs)∧y = .ref b∧H b=some (.tup (k.map kV))∧kvs.length<sizeLine∧H'=upd H a (.dT (z7K kvs k v))
theorem DGet.k{H:Hp}{a:Addr}{kvs:List (Key×V)}{k:Key}(e:H a=some (.dK kvs)):DGet H a (kV k) (y3j kvs k):=.inl ⟨kvs,k,.inl e,rfl,rfl⟩
theorem DPut.k{H:Hp}{a:Addr}{kvs:List (Key×V)}{k:Key}{v:V}(e:H a=some (.dK kvs))(hl:kvs.length<sizeLine):DPut H a (kV k) v (upd H a (.dK (z7K kvs k v))):=.inl ⟨kvs,k,e,rfl,hl,rfl⟩
section
variable{X:Cx}{pins:List (Addr×Obj)}{σ:St}{H:Hp}{s:Shared}{a:Addr}{y v:V}{u r:Value}{o:Option V}{A:Around}{E:Value->Shared->Prop}
theorem Inv.big(I:Inv X pins σ H s):sysModules<s.heap.objs.size:=by
 have h:mainGlobals<s.heap.objs.size:=(I.mod.glob.keeps I.bk).lt
 exact Nat.lt_trans (by decide) h
theorem d_in{Q:Value->Shared->Prop}(hu:A.units+1<fw)(I:Inv X pins σ H s)(g:DGet H a y o)(ry:RelV y u)(h:∀s',Inv X pins σ H s'->Q (.bool o.isSome) s'):
  wpAny (model X.prog X.w) A (fb .In u (.ref a)) Q E s:=by
 rcases g with⟨kvs,k,e,ey,l⟩ | ⟨kvs,k,b,e,ey,eb,l⟩
 ·subst ey
  obtain⟨z,hd,vs,rel,dd⟩:=dk_rd I.hok e
  refine wpAny_in_of (x0c ry) hd dd.mapOf ?_
  rw[←(rel.val k).isSome_eq,←l]
  exact h _ (I.tok _)
 ·subst ey
  cases (show u=Value.ref b from ry)
  obtain⟨z,hd,xs,rel,dd⟩:=dt_rd I.hok e
  refine wpAny_in_heap (tupleKind_room_in1 hu) (y4K I.hok eb) hd dd ?_
  have q:=(rel.val k).isSome_eq
  rw[cK]at q
  rw[←q,←l]
  exact h _ (I.tok _)
theorem d_notIn{Q:Value->Shared->Prop}(hu:A.units+1<fw)(I:Inv X pins σ H s)(g:DGet H a y o)(ry:RelV y u)(h:∀s',Inv X pins σ H s'->Q (.bool (!o.isSome)) s'):
  wpAny (model X.prog X.w) A (fb .NotIn u (.ref a)) Q E s:=by
 rcases g with⟨kvs,k,e,ey,l⟩ | ⟨kvs,k,b,e,ey,eb,l⟩
 ·subst ey
  obtain⟨z,hd,vs,rel,dd⟩:=dk_rd I.hok e
  refine wpAny_notIn_of (x0c ry) hd dd.mapOf ?_
  rw[←(rel.val k).isSome_eq,←l]
  exact h _ (I.tok _)
 ·subst ey
  cases (show u=Value.ref b from ry)
  obtain⟨z,hd,xs,rel,dd⟩:=dt_rd I.hok e
  refine wpAny_notIn_heap (tupleKind_room_in1 hu) (y4K I.hok eb) hd dd ?_
  have q:=(rel.val k).isSome_eq
  rw[cK]at q
  rw[←q,←l]
  exact h _ (I.tok _)
theorem y2o{h':Heap}{t':Nat}{ob:HO}(I:Inv X pins σ H s)(mu:Mut (H a))(hs:Heap.SameBut a s.heap h')(he:∃q,h'.get? a=some q)(new:ObjOk X.prog X.w (upd H a ob) h' a ob):
  Inv X pins σ (upd H a ob) { s with heap:=h',toks:=t' }:=
 I.write (x:=a) (e:=a) mu (.inl rfl) (fun b q hb z=>(hs.2 b hb).trans z) he new
theorem x3B{P:dw}{w:eX}{H':Hp}{h':Heap}{kvs:List (Key×V)}{vs:List (Key×Value)}(z:kvs.length≤sizeLine)(hd:(a==sysModules)=false)(rel:KV kvs vs)(dd:h'.DictOf (z1b P w) a vs):
  ObjOk P w H' h' a (.dK kvs):=⟨z,hd,vs,rel,dd⟩
theorem y9x{H':Hp}{Q:Unit->Shared->Prop}(hu:A.units+1<fw)(I:Inv X pins σ H s)(g:DPut H a y v H')(ry:RelV y u)(rv:RelV v r)(h:∀s',Inv X pins σ H' s'->Q () s'):
  wpAny (model X.prog X.w) A (setItem (.ref a) u r) Q E s:=by
 rcases g with⟨kvs,k,e,ey,l,eH⟩ | ⟨kvs,k,b,e,ey,eb,l,eH⟩
 ·subst ey eH
  obtain⟨z,hd,vs,rel,dd⟩:=dk_of I.hok e
  have hz:vs.length≤sizeLine:=by rw[←rel.length];exact z
  have hl:(z7K kvs k v).length≤sizeLine:=by have:=z4i kvs k v;omega
  refine wpAny_setItem_pairs (hsz:=hz) (x0c ry) dd fun h' dd' hs=>h _ ?_
  have he:∃q,h'.get? a=some q:=let⟨q,_,_,hq,_⟩:=dd';⟨q,hq⟩
  exact y2o I (by rw[e];exact True.intro) hs he (x3B hl hd (rel.put k rv) dd')
 ·subst ey eH
  cases (show u=Value.ref b from ry)
  obtain⟨z,hd,xs,rel,dd⟩:=dt_of I.hok e
  have hz:xs.length≤sizeLine:=by rw[←Paired.length rel];exact z
  have hl:(z7K kvs k v).length≤sizeLine:=by have:=z4i kvs k v;omega
  refine wpAny_setItem_heap (hsz:=hz) (tupleKind_room_in1 hu) (y4K I.hok eb) dd fun h' dd' hs=>h _ ?_
  obtain⟨q,es,ep,hq,h2,h3,h4,_,h5⟩:=dd'
  refine y2o I (by rw[e];exact True.intro) hs ⟨q,hq⟩ ⟨hl,hd,_,(rel.put k eb rv).keeps fun c ys ec=>?_,q,es,ep,hq,h2,h3,h4,h5⟩
  rw[z0t (ne_of ec e (fun z=>nomatch z))]
  exact ec
end
section
end
def tDIn(ty td:TE):TE:=fun σ H Q=>ty σ H fun y H1=>td σ H1 fun x H2=>∃a o,x = .ref a∧DGet H2 a y o∧Q (.bl o.isSome) H2
def tDNotIn(ty td:TE):TE:=fun σ H Q=>ty σ H fun y H1=>td σ H1 fun x H2=>∃a o,x = .ref a∧DGet H2 a y o∧Q (.bl (!o.isSome)) H2
def sDPut(td ty tv:TE):TS:=fun D σ H=>tv σ H fun v H1=>td σ H1 fun x H2=>ty σ H2 fun y H3=>∃a H4,x = .ref a∧DPut H3 a y v H4∧D.nx σ H4
section
variable{X:Cx}{o i value:Expr}{pos pos':Pos}{td ty tv:TE}
theorem pc_din(hu:X.A.units+1<fw)(hi:PE X i ty)(ho:PE X o td):PC X .In i o (tDIn ty td):=by
 intro pins s σ H Q I h
 refine thn (hi pins s σ H _ I h) fun iv s1 ⟨y,H1,I1,ry,q1⟩=>thn (ho pins s1 σ H1 _ I1 q1) fun u s2 ⟨x,H2,I2,rx,a,ov,ex,g,q2⟩=>?_
 subst ex
 obtain rfl:u=Value.ref a:=rx
 exact d_in hu I2 g ry fun s3 I3=>⟨.bl ov.isSome,H2,I3,rfl,q2⟩
theorem y5Y(hu:X.A.units+1<fw)(hi:PE X i ty)(ho:PE X o td):PC X .NotIn i o (tDNotIn ty td):=by
 intro pins s σ H Q I h
 refine thn (hi pins s σ H _ I h) fun iv s1 ⟨y,H1,I1,ry,q1⟩=>thn (ho pins s1 σ H1 _ I1 q1) fun u s2 ⟨x,H2,I2,rx,a,ov,ex,g,q2⟩=>?_
 subst ex
 obtain rfl:u=Value.ref a:=rx
 exact d_notIn hu I2 g ry fun s3 I3=>⟨.bl (!ov.isSome),H2,I3,rfl,q2⟩
theorem ps_dput(hu:X.A.units+1<fw)(ho:PE X o td)(hi:PE X i ty)(hv:PE X value tv)(hs:swapsWith value (some (.Subscript o i pos')) pos.line X.env=pure false):
  PS X (.Assign [.Subscript o i pos'] value pos) (sDPut td ty tv):=by
 intro pins s σ H D I h
 refine wpAny_Assign_Subscript (thn (hv pins s σ H _ I h) fun r s1 ⟨v,H1,I1,rv,q1⟩=>thn (ho pins s1 σ H1 _ I1 q1) fun u s2 ⟨x,H2,I2,rx,q2⟩=>thn (hi pins s2 σ H2 _ I2 q2) fun iv s3 ⟨y,H3,I3,ry,a,H4,ex,g,q3⟩=>?_) hs
 subst ex
 obtain rfl:u=Value.ref a:=rx
 exact y9x hu I3 g ry rv fun s4 I4=>⟨σ,H4,I4,q3⟩
end
theorem y3N{P:dw}{w:eX}{H:Hp}(h:Heap)(hb:sysModules<h.objs.size):ObjOk P w H (h.push { cls:=.type "dict",data:=.dict #[] }) h.objs.size (.dK []):=
 ⟨bJ _,beq_eq_false_iff_ne.mpr (Ne.symm (aG hb)),[],.nil,Heap.DictOf.new h⟩
def tDNewK:TE:=fun _ H Q=>∀p,H p=none->Q (.ref p) (upd H p (.dK []))
section
variable{X:Cx}{pos:Pos}
theorem pe_dnewK:PE X (.Dict [] [] pos) tDNewK:=fun pins s σ H Q I h=>
 wpAny_Dict_empty ⟨.ref s.heap.objs.size,_,I.laid (a:=s.heap.objs.size) (o:=.dK []) (t':=s.toks) (fun _ _ q=>Heap.get?_push_of_some _ q) (aj _) (y3N s.heap I.big),rfl,h _ (I.hok.fresh (aj _))⟩
end
def y8B:List (TE×TE)->St->Hp->(List (V×V)->Hp->Prop)->Prop
 |[],_,H,Q=>Q [] H
 | (tk,tv)::r,σ,H,Q=>tk σ H fun x H1=>tv σ H1 fun y H2=>y8B r σ H2 fun ps H3=>Q ((x,y)::ps) H3
abbrev VV:List (V×V)->List (Value×Value)->Prop:=Paired fun p q=>RelV p.1 q.1∧RelV p.2 q.2
def PPs(X:Cx)(pos:Pos)(keys:List (Option Expr))(values:List Expr)(trs:List (TE×TE)):Prop:=
 ∀(pins:List (Addr×Obj)) (s:Shared) (σ:St) (H:Hp) (Q:List (V×V)->Hp->Prop),Inv X pins σ H s->y8B trs σ H Q →
  wpAny (model X.prog X.w) X.A (evalPairs (pairTrees keys values X.env pos)) (fun vs s'=>∃ps H',Inv X pins σ H' s'∧VV ps vs∧Q ps H') X.xe s
theorem pps_nil{X:Cx}{pos:Pos}:PPs X pos [] [] []:=fun pins s σ H Q I h=>pairTrees_nil_walk ⟨[],H,I,.nil,h⟩
theorem x2d{X:Cx}{pos:Pos}{k v:Expr}{ks:List (Option Expr)}{vs:List Expr}{tk tv:TE}{trs:List (TE×TE)}(hk:PE X k tk)(hv:PE X v tv)(hr:PPs X pos ks vs trs):
  PPs X pos (some k::ks) (v::vs) ((tk,tv)::trs):=fun pins s σ H Q I h=>
 pairTrees_cons_walk (thn (hk pins s σ H _ I h) fun u s1 ⟨x,H1,I1,rx,q1⟩=>thn (hv pins s1 σ H1 _ I1 q1) fun w2 s2 ⟨y,H2,I2,ry,q2⟩=>
  thn (hr pins s2 σ H2 _ I2 q2) fun ws s3 ⟨ps,H3,I3,rel,q3⟩=>⟨(x,y)::ps,H3,I3,.cons ⟨rx,ry⟩ rel,q3⟩)
def y0L(kvs more:List (Key×V)):List (Key×V):=more.foldl (fun acc kv=>z7K acc kv.1 kv.2) kvs
theorem KV.merge:∀{more:List (Key×V)} {rs:List (Key×Value)} {kvs:List (Key×V)} {vs:List (Key×Value)},KV more rs->KV kvs vs->KV (y0L kvs more) (merged vs rs):=by
 intro more rs kvs vs r
 unfold KV at r
 induction r generalizing kvs vs with
 |nil=>intro q;exact q
 | @cons p q ps qs h t ih=>
  intro r0
  have e:KV (z7K kvs p.1 p.2) (stored vs q.1 q.2):=by
   have:=r0.put p.1 h.2
   rw[←h.1];exact this
  exact ih e
theorem z4X:∀(more kvs:List (Key×V)),(y0L kvs more).length≤kvs.length+more.length
 |[],kvs=>by show kvs.length≤kvs.length+0;omega
 |p::r,kvs=>by
  have h1:=z4X r (z7K kvs p.1 p.2)
  have h2:=z4i kvs p.1 p.2
  show(y0L (z7K kvs p.1 p.2) r).length≤_
  rw[aX];omega
theorem z7T{P:dw}{w:eX}:∀{kvs:List (Key×V)} {ws:List (Value×Value)},VV (kvs.map fun kv=>(kV kv.1,kv.2)) ws->∃rs,Carries (z1b P w) ws rs∧KV kvs rs
 |[],_,r=>by rw[cD]at r;cases r;exact⟨[],True.intro,.nil⟩
 |p::kvs,_,r=>by
  rw[ay]at r
  cases r with
  | @cons a b as bs h t=>
   obtain⟨rs,c,q⟩:=z7T (P:=P) (w:=w) t
   obtain⟨b1,b2⟩:=b
   exact⟨(p.1,b2)::rs,⟨x0c h.1,rfl,c⟩,.cons ⟨rfl,h.2⟩ q⟩
def tDisp(trs:List (TE×TE)):TE:=fun σ H Q=>∀p,H p=none->y8B trs σ (upd H p (.dK [])) fun ps H2=>H2 p=some (.dK [])∧∃kvs:List (Key×V),ps=kvs.map (fun kv=>(kV kv.1,kv.2))∧kvs.length≤15∧Q (.ref p) (upd H2 p (.dK (y0L [] kvs)))
theorem pe_disp{X:Cx}{pos:Pos}{keys:List (Option Expr)}{values:List Expr}{trs:List (TE×TE)}(h:PPs X pos keys values trs)(hall:keys.all (·.isSome)=true)(hl:keys.length=values.length)(h0:keys≠[])
  (h15:keys.length≤15):PE X (.Dict keys values pos) (tDisp trs):=by
 intro pins s σ H Q I q
 have hn:=I.hok.fresh (aj s.heap.objs.size)
 have I1:=I.laid (a:=s.heap.objs.size) (o:=.dK []) (h':=s.heap.push { cls:=.type "dict",data:=.dict #[] }) (t':=s.toks) (fun _ _ q=>Heap.get?_push_of_some _ q) (aj _) (y3N s.heap I.big)
 refine wpAny_Dict_walk (knd:=z1b X.prog X.w) hall hl h0 h15 (thn (h pins _ σ _ _ I1 (q _ hn)) fun ws s2 ⟨ps,H2,I2,rel,e,kvs,ep,lk,q2⟩=>?_)
 subst ep
 obtain⟨rs,c,rk⟩:=z7T (P:=X.prog) (w:=X.w) rel
 obtain⟨z,hd,vs0,r0,dd⟩:=dk_of I2.hok e
 cases r0
 refine⟨rs,c,dd,fun h' dd' hs=>⟨.ref s.heap.objs.size,_,?_,rfl,q2⟩⟩
 have hz:(y0L [] kvs).length≤sizeLine:=by
  have h1:=z4X kvs []
  rw[dG]at h1
  rw[sizeLine_eq];omega
 have he:∃q,h'.get? s.heap.objs.size=some q:=let⟨q,_,_,hq,_⟩:=dd';⟨q,hq⟩
 exact y2o I2 (by rw[e];exact True.intro) hs he (x3B hz hd (rk.merge .nil) dd')
structure M1(X:Cx)(o:Expr)(m:Str)(apos:Pos)(e:Expr)(cpos:Pos):Prop where
 base:ff o m X.env (eval o X.env)=eval o X.env
 few:((e9 cpos (starEach [e] X.env)).all (fun x=>!x.1)&&(backToKw cpos (keywordEach [] X.env)).all (fun x=>x.1.isSome)
  && decide (([e]:List Expr).length+([]:List fg).length+(if([]:List fg).isEmpty then 0 else 1)<30))=true
 line:(apos.endLine==cpos.line)=true
 trees:e9 cpos (starEach [e] X.env)=[(false,eval e X.env)]
structure M2(X:Cx)(o:Expr)(m:Str)(apos:Pos)(e f:Expr)(cpos:Pos):Prop where
 base:ff o m X.env (eval o X.env)=eval o X.env
 few:((e9 cpos (starEach [e,f] X.env)).all (fun x=>!x.1)&&(backToKw cpos (keywordEach [] X.env)).all (fun x=>x.1.isSome)
  && decide (([e,f]:List Expr).length+([]:List fg).length+(if([]:List fg).isEmpty then 0 else 1)<30))=true
 line:(apos.endLine==cpos.line)=true
 trees:e9 cpos (starEach [e,f] X.env)=[(false,eval e X.env),(false,eval f X.env)]
section
end
section
end
section
end
section
end
def z2I(cells:List (Str×Addr)):List (Str×NameKind)->List (Str×Addr)->List (Str×Addr)
 |[],acc=>acc
 | (n,k)::r,acc=>if k == .free then z2I cells r ((n,(cells.lookup n).getD 0)::acc)else z2I cells r acc
theorem z7d{env:Env}(f:Str×NameKind->List (Str×Addr)->Sem (ForInStep (List (Str×Addr))))
  (hf:∀n k cs,f (n,k) cs=if k == .free then(do let a ←cellOf env n;pure (.yield ((n,a)::cs)))else pure (.yield cs)):
  ∀(names:List (Str×NameKind)) (acc:List (Str×Addr)),(∀n,(n,NameKind.free)∈names->∃c,env.cells.lookup n=some c)->forIn names acc f=pure (z2I env.cells names acc)
 |[],acc,_=>by rw[List.forIn_nil];rfl
 | (n,k)::r,acc,h=>by
  have hr:=z7d f hf r
  rw[List.forIn_cons,hf]
  unfold z2I
  by_cases hk:(k==NameKind.free)=true
  ·rw[if_pos hk,if_pos hk]
   have ek:k = .free:=eq_of_beq hk
   subst ek
   obtain⟨c,e⟩:=h n af
   have e1:cellOf env n=pure c:=by unfold cellOf;rw[e]
   rw[e1,e]
   exact hr _ fun m hm=>h m (ae _ hm)
  ·rw[if_neg hk,if_neg hk]
   exact hr _ fun m hm=>h m (ae _ hm)
theorem z3o{scope:fu}{env:Env}(h:∀n,(n,NameKind.free)∈scope.names->∃c,env.cells.lookup n=some c):closureFor scope env=pure (z2I env.cells scope.names []):=by
 simp only[closureFor]
 rw[z7d _ (fun n k cs=>by cases hkc:k==NameKind.free <;> simp[hkc]) scope.names [] h]
 rfl
theorem z3K{cells:List (Str×Addr)}:∀(names:List (Str×NameKind)) (acc:List (Str×Addr)) {x:Str} {c:Addr},(x,c)∈z2I cells names acc->(x,c)∈acc∨((x,NameKind.free)∈names∧c=(cells.lookup x).getD 0)
 |[],_,_,_,h=>.inl h
 | (n,k)::r,acc,x,c,h=>by
  unfold z2I at h
  by_cases hk:(k==NameKind.free)=true
  ·rw[if_pos hk]at h
   have ek:k = .free:=eq_of_beq hk
   subst ek
   rcases z3K r _ h with z | ⟨z1,z2⟩
   ·rcases ao.mp z with q | q
    ·cases q
     exact .inr ⟨af,rfl⟩
    ·exact .inl q
   ·exact .inr ⟨ae _ z1,z2⟩
  ·rw[if_neg hk]at h
   rcases z3K r _ h with z | ⟨z1,z2⟩
   ·exact .inl z
   ·exact .inr ⟨ae _ z1,z2⟩
theorem z2m{α:Type}{x:Str}{c:α}:∀{l:List (Str×α)},(x,c)∈l->(l.lookup x).isSome=true
 | (n,d)::r,h=>by
  rw[cu]
  cases hb:x==n with
  |true=>rfl
  |false=>
   rcases ao.mp h with q | q
   ·cases q
    simp at hb
   ·exact z2m q
theorem z6r{cells:List (Str×Addr)}{x:Str}:∀(names:List (Str×NameKind)) (acc:List (Str×Addr)),(x,NameKind.free)∈names∨(∃c,(x,c)∈acc)->∃c,(x,c)∈z2I cells names acc
 |[],_,h=>h.elim (fun z=>nomatch z) id
 | (n,k)::r,acc,h=>by
  unfold z2I
  by_cases hk:(k==NameKind.free)=true
  ·rw[if_pos hk]
   refine z6r r _ ?_
   rcases h with z | ⟨c,z⟩
   ·rcases ao.mp z with q | q
    ·cases q
     exact .inr ⟨_,af⟩
    ·exact .inl q
   ·exact .inr ⟨c,ae _ z⟩
  ·rw[if_neg hk]
   refine z6r r _ ?_
   rcases h with z | z
   ·rcases ao.mp z with q | q
    ·cases q
     exact absurd (by rfl) hk
    ·exact .inl q
   ·exact .inr z
theorem z3b:∀(names:List (Str×NameKind)) (h:Heap) (acc:List (Str×Addr)) {x:Str} {c:Addr},(x,c)∈e8 h.objs.size names acc →
  (x,c)∈acc∨((x,NameKind.cell)∈names∧h.objs.size≤c∧(pushCells h names).IsCell c none)
 |[],_,_,_,_,hm=>.inl hm
 | (n,k)::r,h,acc,x,c,hm=>by
  unfold e8 at hm
  unfold pushCells
  by_cases hk:(k==NameKind.cell)=true
  ·rw[if_pos hk]at hm
   rw[if_pos hk]
   have ek:k = .cell:=eq_of_beq hk
   subst ek
   have e:(h.push { cls:=.type "cell",data:=.cell none }).objs.size=h.objs.size+1:=Heap.size_push ..
   rw[←e]at hm
   rcases z3b r _ _ hm with z | ⟨z1,z2,z3⟩
   ·rcases ao.mp z with q | q
    ·cases q
     exact .inr ⟨af,aj _,⟨_,pushCells_keeps r _ _ _ (Heap.get?_push_size _ rfl),rfl⟩⟩
    ·exact .inl q
   ·exact .inr ⟨ae _ z1,by omega,z3⟩
  ·rw[if_neg hk]at hm
   rw[if_neg hk]
   rcases z3b r h acc hm with z | ⟨z1,z2,z3⟩
   ·exact .inl z
   ·exact .inr ⟨ae _ z1,z2,z3⟩
theorem z2M{x:Str}:∀(names:List (Str×NameKind)) (n:Nat) (acc:List (Str×Addr)),(x,NameKind.cell)∈names∨(∃c,(x,c)∈acc)->∃c,(x,c)∈e8 n names acc
 |[],_,_,h=>h.elim (fun z=>nomatch z) id
 | (y,k)::r,n,acc,h=>by
  unfold e8
  by_cases hk:(k==NameKind.cell)=true
  ·rw[if_pos hk]
   refine z2M r _ _ ?_
   rcases h with z | ⟨c,z⟩
   ·rcases ao.mp z with q | q
    ·cases q
     exact .inr ⟨_,af⟩
    ·exact .inl q
   ·exact .inr ⟨c,ae _ z⟩
  ·rw[if_neg hk]
   refine z2M r _ _ ?_
   rcases h with z | z
   ·rcases ao.mp z with q | q
    ·cases q
     exact absurd (by rfl) hk
    ·exact .inl q
   ·exact .inr z
theorem z3a(lo:Nat):∀(names:List (Str×NameKind)) (n:Nat) (acc:List (Str×Addr)),(∀x y c,(x,c)∈acc->(y,c)∈acc->lo≤c->x=y)->(∀p∈acc,p.2<n) →
  ∀x y c,(x,c)∈e8 n names acc->(y,c)∈e8 n names acc->lo≤c->x=y
 |[],_,_,h,_=>h
 | (m,k)::r,n,acc,h,hb=>by
  unfold e8
  by_cases hk:(k==NameKind.cell)=true
  ·rw[if_pos hk]
   refine z3a lo r (n+1) ((m,n)::acc) (fun x y c hx hy hc=>?_) fun p hp=>?_
   ·rcases ao.mp hx with q | q <;> rcases ao.mp hy with q' | q'
    ·cases q;cases q';rfl
    ·cases q
     exact absurd (hb _ q') (bK _)
    ·cases q'
     exact absurd (hb _ q) (bK _)
    ·exact h x y c q q' hc
   ·rcases ao.mp hp with q | q
    ·cases q;exact Nat.lt_succ_self _
    ·exact cN (hb p q)
  ·rw[if_neg hk]
   exact z3a lo r n acc h hb
theorem z4b(env:Env)(x:Str):∀names:List (Str×NameKind),
  (names.map fun(n,k)=>if(k==NameKind.free&&env.scope.kind == .function&&env.kindOf n==some .cell)then(n,NameKind.cell)else(n,k)).lookup x =
   (names.lookup x).map fun k=>if(k==NameKind.free&&env.scope.kind == .function&&env.kindOf x==some .cell)then NameKind.cell else k
 |[]=>rfl
 | (n,k)::r=>by
  have ih:=z4b env x r
  show List.lookup x ((if(k==NameKind.free&&env.scope.kind == .function&&env.kindOf n==some .cell)=true then(n,NameKind.cell)else(n,k))::_)=_
  cases hx:x==n with
  |true=>
   have e:=eq_of_beq hx
   subst e
   by_cases hc:(k==NameKind.free&&env.scope.kind == .function&&env.kindOf x==some .cell)=true
   ·rw[if_pos hc]
    simp only[cu,beq_self_eq_true,b7,hc,if_true]
   ·rw[if_neg hc]
    simp only[cu,beq_self_eq_true,b7]
    rw[if_neg hc]
  |false=>
   by_cases hc:(k==NameKind.free&&env.scope.kind == .function&&env.kindOf n==some .cell)=true
   ·rw[if_pos hc];simp only[cu,hx];exact ih
   ·rw[if_neg hc];simp only[cu,hx];exact ih
theorem z2A{M:Model}{A:Around}{E:Value->Shared->Prop}{s:Shared}{scope:fu}{globals:Addr}{closure:List (Str×Addr)}{qual:Str}{env:Env}{Q:Env->Shared->Prop}
  (hQ:Q (newEnv scope s.heap.objs.size globals (e8 (s.heap.objs.size+1) scope.names closure) qual none .none (some env) builtinsNs)
   { s with heap:=pushCells (s.heap.push { cls:=.type "dict",data:=.dict #[] }) scope.names }):
  wpAny M A (newFunctionEnv scope globals closure [] qual none .none (some env)) Q E s:=by
 simp only[newFunctionEnv,eG,if_true]
 refine wpAny_bind (wpAny_alloc ?_)
 refine wpAny_bind (wpAny_layCells _ (fun name kind cells=>by cases hkc:kind==NameKind.cell <;> simp[hkc]) _ _ _ _ ?_)
 rw[show({ s with heap:=s.heap.push { cls:=.type "dict",data:=.dict #[] } }:Shared).heap.objs.size=s.heap.objs.size+1 from Heap.size_push ..]
 refine wpAny_bind ?_
 rw[List.forIn_nil]
 exact wpAny_pure (wpAny_pure hQ)
def capOk(out names:List (Str×NameKind)):Bool:=names.all fun p=>!(decide (p.2=NameKind.free))||(decide (out.lookup p.1=some NameKind.cell)||decide (out.lookup p.1=some NameKind.free))
def nmOk(N N':List Str)(names:List (Str×NameKind)):Bool:=(ad N.length).all fun i=>match N'[i]? with
 |some y=>decide (names.lookup y=none)||(decide (names.lookup y=some NameKind.free)&&decide (N[i]? = some y))
 |none=>false
structure CompScope(N:List Str)(out:List (Str×NameKind))(N':List Str)(k:Nat)(sc:fu):Prop where
 kind:sc.kind = .function
 len:N'.length=N.length+k
 cap:capOk out sc.names=true
 nm:nmOk N N' sc.names=true
 uniq:sc.names.all (fun p=>decide (sc.names.lookup p.1=some p.2))=true
def z0E(X:Cx)(N':List Str)(sc:fu)(s:Shared)(H:Hp)(fp:List Addr)(pins:List (Addr×Obj))(E:Value->Shared->Prop):Cx where
 prog:=X.prog
 w:=X.w
 K:=X.K
 mg:=X.mg
 base:=X.base
 A:=X.A
 N:=N'
 s₀:=s
 H₀:=H
 env:=compEnvC sc (e8 (s.heap.objs.size+1) sc.names (z2I X.env.cells sc.names [])) s.heap.objs.size X.env
 outer:=X.stack
 stack:=X.stack
 ex:=fp
 fn:=fun x=>decide (sc.names.lookup x=some .cell)
 calm:=X.calm
 pn:=X.pn++pins
 xe:=E
section
variable{X:Cx}{N':List Str}{k:Nat}{sc:fu}{pins:List (Addr×Obj)}{σ:St}{H:Hp}{s:Shared}{fp:List Addr}{E:Value->Shared->Prop}
theorem CompScope.fr(S:CompScope X.N X.env.scope.names N' k sc){x:Str}(h:(x,NameKind.free)∈sc.names):X.env.kindOf x=some .cell∨X.env.kindOf x=some .free:=by
 have q:=aJ.mp S.cap _ h
 simp at q
 exact q
theorem CompScope.look{N:List Str}{out:List (Str×NameKind)}(S:CompScope N out N' k sc){x:Str}{kd:NameKind}(h:(x,kd)∈sc.names):sc.names.lookup x=some kd:=by
 have q:=aJ.mp S.uniq _ h
 exact of_decide_eq_true q
theorem x0S(S:CompScope X.N X.env.scope.names N' k sc)(I:Inv X pins σ H s)(hf:∀b∈fp,y0O X pins H b)(hlt:∀b∈fp,b<s.heap.objs.size):
  Inv (z0E X N' sc s H fp pins E) [] (σ++am k none) H { s with heap:=pushCells (s.heap.push { cls:=.type "dict",data:=.dict #[] }) sc.names }:=by
 have keeps:∀b o,s.heap.get? b=some o->(pushCells (s.heap.push { cls:=.type "dict",data:=.dict #[] }) sc.names).get? b=some o:=fun b o e=>pushCells_keeps _ _ _ _ (Heap.get?_push_of_some _ e)
 have hsz:(s.heap.push { cls:=.type "dict",data:=.dict #[] }).objs.size=s.heap.objs.size+1:=Heap.size_push ..
 have hns:(pushCells (s.heap.push { cls:=.type "dict",data:=.dict #[] }) sc.names).Ns s.heap.objs.size (fun _=>none):=(Heap.Ns.new s.heap (.type "dict")).keeps (pushCells_keeps _ _)
 have frc:∀x,(x,NameKind.free)∈sc.names->∃c,X.env.cells.lookup x=some c:=fun x h=>I.ok.has x (S.fr h)
 have cm:∀x c,(x,c)∈e8 (s.heap.objs.size+1) sc.names (z2I X.env.cells sc.names []) →
   ((x,NameKind.cell)∈sc.names∧s.heap.objs.size+1≤c∧(pushCells (s.heap.push { cls:=.type "dict",data:=.dict #[] }) sc.names).IsCell c none)∨((x,NameKind.free)∈sc.names∧X.env.cells.lookup x=some c):=fun x c h=>by
  rw[←hsz]at h
  rcases z3b _ _ _ h with z | ⟨z1,z2,z3⟩
  ·rcases z3K _ _ z with z | ⟨z1,z2⟩
   ·exact nomatch z
   ·obtain⟨c',e⟩:=frc x z1
    rw[e]at z2
    cases z2
    exact .inr ⟨z1,e⟩
  ·exact .inl ⟨z1,by omega,z3⟩
 have cl:∀x c,(e8 (s.heap.objs.size+1) sc.names (z2I X.env.cells sc.names [])).lookup x=some c->(x,c)∈e8 (s.heap.objs.size+1) sc.names (z2I X.env.cells sc.names []):=fun x c h=>PySem.mem_of_lookup h
 have clt:∀x c,X.env.cells.lookup x=some c->c<s.heap.objs.size:=fun x c h=>by
  obtain⟨v,q⟩:=I.cell x c h
  exact q.lt
 have has:∀x,(x,NameKind.cell)∈sc.names∨(x,NameKind.free)∈sc.names->∃c,(e8 (s.heap.objs.size+1) sc.names (z2I X.env.cells sc.names [])).lookup x=some c:=fun x h=>by
  obtain⟨c,hc⟩:=z2M (x:=x) sc.names (s.heap.objs.size+1) (z2I X.env.cells sc.names []) (h.imp id fun z=>z6r _ _ (.inl z))
  exact bI.mp (z2m hc)
 have kd:∀x kk,(relabel sc X.env).names.lookup x=some kk->∃k0,sc.names.lookup x=some k0∧(kk=k0∨(k0 = .free∧kk = .cell)):=fun x kk h=>by
  have q:=z4b X.env x sc.names
  have h':(sc.names.map fun(n,k)=>if(k==NameKind.free&&X.env.scope.kind == .function&&X.env.kindOf n==some .cell)then(n,NameKind.cell)else(n,k)).lookup x=some kk:=h
  rw[q]at h'
  cases e:sc.names.lookup x with
  |none=>rw[e]at h';cases h'
  |some k0=>
   rw[e]at h'
   simp only[b7,Option.some.injEq]at h'
   refine⟨k0,rfl,?_⟩
   split at h'
   ·rename_i hc
    simp at hc
    exact .inr ⟨hc.1.1,h'.symm⟩
   ·exact .inl h'.symm
 refine⟨⟨I.ok.mod,S.kind,I.ok.glob,I.ok.blt,aj _,?inj,?has,?cab,I.ok.hd,I.ok.frames,.inl rfl,?exf,I.bs,aF I.ok.bsz I.sz,?noex,?exfs,I.stack,I.stkFree⟩,
  rfl,I.bare,Un.kept keeps,⟨_,hns,?loc⟩,?cell,I.hok.fresh (aj _),?freeC,?pin,I.hok.kept keeps,?len⟩
 case inj=>
  intro x y c h1 h2
  rcases cm x c (cl x c h1)with⟨_,l1,_⟩ | ⟨m1,e1⟩
  ·rcases cm y c (cl y c h2)with⟨_,l2,_⟩ | ⟨m2,e2⟩
   ·refine z3a (s.heap.objs.size+1) sc.names (s.heap.objs.size+1) (z2I X.env.cells sc.names []) (fun x y c hx _ hc=>?_) (fun p hp=>?_) x y c (cl x c h1) (cl y c h2) l1
    ·rcases z3K _ _ hx with z | ⟨z1,z2⟩
     ·exact nomatch z
     ·obtain⟨c',e⟩:=frc x z1
      rw[e]at z2
      have z3:c=c':=z2
      subst z3
      exact absurd (clt x c e) (dX.mpr (bV hc))
    ·obtain⟨x,c⟩:=p
     rcases z3K _ _ hp with z | ⟨z1,z2⟩
     ·exact nomatch z
     ·obtain⟨c',e⟩:=frc x z1
      rw[e]at z2
      have z3:c=c':=z2
      subst z3
      exact cN (clt x c e)
   ·exact absurd (clt y c e2) (dX.mpr (bV l1))
  ·rcases cm y c (cl y c h2)with⟨_,l2,_⟩ | ⟨m2,e2⟩
   ·exact absurd (clt x c e1) (dX.mpr (bV l2))
   ·exact I.ok.inj x y c e1 e2
 case has=>
  intro x hx
  refine has x ?_
  rcases hx with hx | hx
  ·obtain⟨k0,e,h⟩:=kd x _ hx
   rcases h with h | ⟨h,_⟩
   ·subst h;exact .inl (PySem.mem_of_lookup e)
   ·subst h;exact .inr (PySem.mem_of_lookup e)
  ·obtain⟨k0,e,h⟩:=kd x _ hx
   rcases h with h | ⟨_,h⟩
   ·subst h;exact .inr (PySem.mem_of_lookup e)
   ·cases h
 case cab=>
  intro x c hfn h
  have hfn':sc.names.lookup x=some NameKind.cell:=of_decide_eq_true hfn
  rcases cm x c (cl x c h)with⟨_,l,_⟩ | ⟨m,_⟩
  ·exact bV l
  ·rw[S.look m]at hfn';cases hfn'
 case exf=>
  intro b hb
  refine⟨aG (hlt b hb),fun x c h=>?_⟩
  rcases cm x c (cl x c h)with⟨_,l,_⟩ | ⟨_,e⟩
  ·intro z
   subst z
   exact absurd (hlt c hb) (dX.mpr (bV l))
  ·exact(hf b hb).2.2.2.2.1 x c e
 case noex=>
  intro b o e hb
  rcases (hf b hb).2.2.2.1 with z | z
  ·exact I.ok.noex b o e z
  ·exact absurd (aI (Heap.lt_size e) (aF I.ok.bsz z)) (bK _)
 case exfs=>exact fun b hb z=>(ao.mp (I.stkSub b z)).elim (hf b hb).2.1 (hf b hb).2.2.1
 case loc=>
  intro i y v h1 h2 h3
  have hl:=I.len
  by_cases hi:i<σ.length
  ·rw[aY hi]at h2
   have q:=aJ.mp S.nm i (ai.mpr (by omega))
   have h1':N'[i]? = some y:=h1
   simp only[h1',Bool.or_eq_true,aA,decide_eq_true_eq]at q
   rcases q with q | ⟨q1,q2⟩
   ·exfalso
    rcases h3 with z | z | z <;> (obtain⟨k0,e,_⟩:=kd y _ z;rw[q]at e;cases e)
   ·have hm:=PySem.mem_of_lookup q1
    obtain⟨m,hn,hloc⟩:=I.loc
    have kk:=S.fr hm
    obtain⟨u,r,l⟩:=hloc i y v q2 h2 (kk.elim (fun z=>.inr (.inl z)) fun z=>.inr (.inr z))
    refine⟨u,r,.inr ⟨?_,?_⟩⟩
    ·rcases h3 with z | z | z
     ·obtain⟨k0,e,h⟩:=kd y _ z
      rw[q1]at e
      cases e
      rcases h with h | ⟨_,h⟩ <;> cases h
     ·exact .inl z
     ·exact .inr z
    ·rcases l with⟨l,_⟩ | ⟨_,c,ec,hc⟩
     ·rcases kk with z | z <;> (rw[z]at l;cases l)
     ·obtain⟨c',e'⟩:=has y (.inr hm)
      refine⟨c',e',?_⟩
      rcases cm y c' (cl y c' e')with⟨m',_⟩ | ⟨_,e2⟩
      ·have:=S.look m'
       rw[q1]at this
       cases this
      ·rw[ec]at e2
       cases e2
       exact hc.keeps keeps
  ·rw[bp (by omega),cb]at h2
   split at h2 <;> cases h2
 case cell=>
  intro x c h
  rcases cm x c (cl x c h)with⟨_,_,q⟩ | ⟨_,e⟩
  ·exact⟨_,q⟩
  ·obtain⟨v,q⟩:=I.cell x c e
   exact⟨v,q.keeps keeps⟩
 case freeC=>
  intro x c h
  rcases cm x c (cl x c h)with⟨_,l,_⟩ | ⟨_,e⟩
  ·exact I.hok.fresh (bV l)
  ·exact I.freeC x c e
 case pin=>
  intro p hp
  have hp':p∈X.pn++pins:=by
   rcases ar.mp hp with z | z
   ·exact z
   ·exact nomatch z
  obtain⟨e,n,ne,nf,d⟩:=I.pin p hp'
  exact⟨keeps _ _ e,n,aG (Heap.lt_size e),fun z=>(ao.mp (I.stkSub p.1 z)).elim ne nf,d⟩
 case len=>
  show _=N'.length
  rw[aC,cV,S.len,I.len]
theorem y1n{σ':St}{H':Hp}{s':Shared}(I:Inv X pins σ H s)(hf:∀b∈fp,y0O X pins H b)(J:Inv (z0E X N' sc s H fp pins E) [] σ' H' s'):Inv X pins σ H' s':=
 I.call' J.os J.base J.hok J.bare fun b hb=>⟨(hf b hb).2.2.2.1,(hf b hb).2.1,(hf b hb).2.2.2.2.1,(hf b hb).2.2.2.2.2⟩
theorem y8K{H':Hp}{s':Shared}{h':Heap}(I:Inv X pins σ H s)(J:Inv X pins σ H' s')(hn:H' s.heap.objs.size=none)(hb:Heap.SameBut s.heap.objs.size s'.heap h'):Inv X pins σ H' { s' with heap:=h' }:=by
 refine J.turned (t':=s'.toks) (it:=s.heap.objs.size) (fun b o hne e=>(hb.2 b hne).trans e) hn (cF I.lt) (.inr I.sz) (fun x c e=>?_) fun p hp=>?_
 ·obtain⟨v,q⟩:=I.cell x c e
  exact aG q.lt
 ·exact aG (Heap.lt_size (I.pin p hp).1)
end
theorem y1a{prog:dw}{w:eX}{A:Around}{R:Result->Shared->Prop}{s:Shared}{elt target iter:Expr}{ifs:List Expr}{scope:fu}{pos:Pos}{it acc:Value}{env:Env}(I:Nat->Shared->Prop)
  (turn:∀n s,I n s->wpAny (model prog w) A (pyNext it) (fun r s₁=>match r with
   |none=>R (.ok .next) s₁
   |some v=>wpAny (model prog w) A (letOwnedTupleGo target it v) (fun _ s₁'=>wpAny (model prog w) A (assign target env v) (fun _ s₂=>
     wpAny (model prog w) A (forIn ifs true fun c r=>if r=true then do let ok ←isTrue c env (eval c env);pure (ForInStep.yield ok)else pure (ForInStep.yield r)) (fun ok s₃=>
      if ok=true then wpAny (model prog w) A (eval elt env) (fun x s₄=>
       wpAny (model prog w) A (call (.builtin "list.append") [acc,x]) (fun _ s₅=>∃m,m<n∧I m s₅) (notedBy (model prog w) A env fun e s'=>R (.error e) s') s₄) (notedBy (model prog w) A env fun e s'=>R (.error e) s') s₃
      else ∃m,m<n∧I m s₃) (notedBy (model prog w) A env fun e s'=>R (.error e) s') s₂) (notedBy (model prog w) A env fun e s'=>R (.error e) s') s₁') (notedBy (model prog w) A env fun e s'=>R (.error e) s') s₁) (notedBy (model prog w) A env fun e s'=>R (.error e) s') s)
  (n:Nat) (h:I n s):
  codeAny (model prog w) A (.compLoop (.ListComp elt [⟨target,iter,ifs,0⟩] scope pos) 0 it acc env) R s:=by
 refine codeAny_loop rfl I (fun n s hI=>?_) n h
 show wpAny _ A ((compTurn (.ListComp elt [⟨target,iter,ifs,0⟩] scope pos) 0 it acc env).onRaise (fun x=>do noteFrame x env;theTreesLotGoes x)) _ _ s
 refine wpAny_noted ?_
 rw[compTurn_list]
 refine wpAny_bind (wpAny_standAt (wpAny_bind (wpAny_mono (turn n s hI) (fun r s₁ h₁=>?_) fun _ _ h'=>h')))
 cases r with
 |none=>exact wpAny_pure h₁
 |some v=>
  refine wpAny_bind (wpAny_mono h₁ (fun _ s₁' h₁'=>?_) fun _ _ h'=>h')
  refine wpAny_bind (wpAny_mono h₁' (fun _ s₂ h₂=>wpAny_bind (wpAny_mono h₂ (fun ok s₃ h₃=>?_) fun _ _ h'=>h')) fun _ _ h'=>h')
  cases ok with
  |false=>exact wpAny_pure ⟨rfl,h₃⟩
  |true=>
   exact wpAny_bind (wpAny_bind (wpAny_mono h₃ (fun x s₄ h₄=>wpAny_bind (wpAny_mono h₄ (fun _ s₅ h₅=>wpAny_pure (wpAny_pure ⟨rfl,h₅⟩)) fun _ _ h'=>h')) fun _ _ h'=>h'))
def x0h(X:Cx)(ifs:List Expr)(t:TT):Prop:=
 ∀(pins:List (Addr×Obj)) (s:Shared) (σ:St) (H:Hp) (Q:Bool->Hp->Prop),Inv X pins σ H s->t σ H Q →
  wpAny (model X.prog X.w) X.A (forIn ifs true fun c r=>if r=true then do let ok ←isTrue c X.env (eval c X.env);pure (ForInStep.yield ok)else pure (ForInStep.yield r)) (TP X pins σ Q) X.xe s
def tYes:TT:=fun _ H Q=>Q true H
theorem x1G{X:Cx}:x0h X [] tYes:=fun _ _ _ H _ I h=>wpAny_tests_nil ⟨H,I,h⟩
theorem x1r{X:Cx}{c:Expr}{t:TT}(h:PT X c t):x0h X [c] t:=fun pins s σ H Q I hw=>wpAny_tests_one (h pins s σ H Q I hw)
def y9c(wi:TI)(g:TG)(tc:TT)(te:TE)(k:Nat):TE:=fun σ H Q=>wi σ H fun J H1=>∀D,H1 D=none →
 ∃W:Nat->Nat->St->Hp->Prop,(∃m,W 0 m (σ++am k none) (upd H1 D (.lst [])))∧∀i m σ' H',W i m σ' H' →
  (J.stop i H'∧Q (.ref D) H')∨(J.go i H'∧∃N:St->Hp->Prop,(∀σ'' H'',N σ'' H''->∃m',m'<m∧W (i+1) m' σ'' H'') ∧
   ∀x H2,J.yld i H' x H2->g x σ' H2 fun σ2 H3=>tc σ2 H3 fun b H4=>if b=true then te σ2 H4 fun y H5=>∃ys,H5 D=some (.lst ys)∧ys.length<sizeLine∧N σ2 (upd H5 D (.lst (ys++[y])))else N σ2 H4)
structure PComp(X:Cx)(N':List Str)(sc:fu)(tg:Expr)(ifs:List Expr)(elt:Expr)(g:TG)(tc:TT)(te:TE):Prop where
 pg:∀s H fp pins E,PG (z0E X N' sc s H fp pins E) tg g
 pt:∀s H fp pins E,x0h (z0E X N' sc s H fp pins E) ifs tc
 pe:∀s H fp pins E,PE (z0E X N' sc s H fp pins E) elt te
section
variable{X:Cx}{N':List Str}{k:Nat}{sc:fu}{tg iter elt:Expr}{ifs:List Expr}{pos:Pos}{g:TG}{tc:TT}{te:TE}{wi:TI}
theorem z8p{pins:List (Addr×Obj)}{σ:St}{H:Hp}{s:Shared}{J:It}{fp:List Addr}{it:Addr}{tn:Nat->Heap->Prop}{Q:VK}{E:Value->Shared->Prop}{RR:Value->Addr->Result->Shared->Prop}
  (hc:X.calm=true) (S:CompScope X.N X.env.scope.names N' k sc) {PC:Shared->Hp->(Value->Shared->Prop)->Prop} (P:∀s H E,PC s H E->PG (z0E X N' sc s H fp pins E) tg g∧x0h (z0E X N' sc s H fp pins E) ifs tc∧PE (z0E X N' sc s H fp pins E) elt te)
  (hP:∀D s3 H3,Inv X pins σ H3 s3->(∀b∈fp,y0O X pins H3 b)->PC s3 H3 (notedBy (model X.prog X.w) X.A (compEnvC sc (e8 (s3.heap.objs.size+1) sc.names (z2I X.env.cells sc.names [])) s3.heap.objs.size X.env) fun e s'=>RR (.ref D) s3.heap.objs.size (.error e) s')) (I:Inv X pins σ H s) (T:Turn X.prog X.w X.K tg J fp it tn) (st:tn 0 s.heap) (hf:∀b∈fp,y0O X pins H b)
  (hW:∀D,H D=none->∃W:Nat->Nat->St->Hp->Prop,(∃m,W 0 m (σ++am k none) (upd H D (.lst [])))∧∀i m σ' H',W i m σ' H' →
   (J.stop i H'∧Q (.ref D) H')∨(J.go i H'∧∃N:St->Hp->Prop,(∀σ'' H'',N σ'' H''->∃m',m'<m∧W (i+1) m' σ'' H'') ∧
    ∀x H2,J.yld i H' x H2->g x σ' H2 fun σ2 H3=>tc σ2 H3 fun b H4=>if b=true then te σ2 H4 fun y H5=>∃ys,H5 D=some (.lst ys)∧ys.length<sizeLine∧N σ2 (upd H5 D (.lst (ys++[y])))else N σ2 H4))
  (hR:∀D s3 H3 σ' H' s' E',Inv X pins σ H3 s3->(∀b∈fp,y0O X pins H3 b)->Inv (z0E X N' sc s3 H3 fp pins E') [] σ' H' s'->Q (.ref D) H'->RR (.ref D) s3.heap.objs.size (.ok .next) s'):
  wpAny (model X.prog X.w) X.A (newList []) (fun acc s₃=>wpAny (model X.prog X.w) X.A (newFunctionEnv sc X.env.globals (z2I X.env.cells sc.names []) [] X.env.qual none .none (some X.env)) (fun cenv s₄=>
   codeAny (model X.prog X.w) X.A (.compStart (.ListComp elt [⟨tg,iter,ifs,0⟩] sc pos) 0 (.ref it) acc { cenv with scope:=relabel sc X.env }) (RR acc cenv.locals) s₄) E s₃) E s:=by
 obtain⟨W,⟨m0,w0⟩,step⟩:=hW s.heap.objs.size (I.hok.fresh (aj _))
 have I3:Inv X pins σ (upd H s.heap.objs.size (.lst [])) { s with heap:=s.heap.push { cls:=.type "list",data:=.seq ([]:List Value).toArray },toks:=s.toks }:=I.lnew (t':=s.toks) .nil (bJ _)
 have lt0:∀b∈fp,b<s.heap.objs.size:=fun b hb=>by
  obtain⟨o,e,_⟩:=T.obj 0 _ st b hb
  exact Heap.lt_size e
 have hf3:∀b∈fp,y0O X pins (upd H s.heap.objs.size (.lst [])) b:=fun b hb=>⟨by rw[z0t (aG (lt0 b hb))];exact(hf b hb).1,(hf b hb).2⟩
 have lt3:∀b∈fp,b<(s.heap.push { cls:=.type "list",data:=.seq ([]:List Value).toArray }).objs.size:=fun b hb=>by
  rw[Heap.size_push]
  exact cN (lt0 b hb)
 refine wpAny_newObj_type (z2A ?_)
 generalize hs3:({ s with heap:=s.heap.push { cls:=.type "list",data:=.seq ([]:List Value).toArray },toks:=s.toks }:Shared)=s3 at I3
 have hsh:s3.heap=s.heap.push { cls:=.type "list",data:=.seq ([]:List Value).toArray }:=by rw[←hs3]
 rw[←hsh]at lt3
 have st3:tn 0 s3.heap:=T.keep _ _ _ st fun b _ o e=>by rw[hsh];exact Heap.get?_push_of_some _ e
 show codeAny _ _ (.compStart _ 0 (.ref it) (.ref s.heap.objs.size) (compEnvC sc (e8 (s3.heap.objs.size+1) sc.names (z2I X.env.cells sc.names [])) s3.heap.objs.size X.env)) (RR (.ref s.heap.objs.size) s3.heap.objs.size)
  { s3 with heap:=pushCells (s3.heap.push { cls:=.type "dict",data:=.dict #[] }) sc.names }
 generalize hD:s.heap.objs.size=D at *
 generalize hEn:(notedBy (model X.prog X.w) X.A (compEnvC sc (e8 (s3.heap.objs.size+1) sc.names (z2I X.env.cells sc.names [])) s3.heap.objs.size X.env) fun e s'=>RR (.ref D) s3.heap.objs.size (.error e) s')=En
 have I4:Inv (z0E X N' sc s3 (upd H D (.lst [])) fp pins En) [] (σ++am k none) (upd H D (.lst [])) { s3 with heap:=pushCells (s3.heap.push { cls:=.type "dict",data:=.dict #[] }) sc.names }:=x0S S I3 hf3 lt3
 have st4:tn 0 (pushCells (s3.heap.push { cls:=.type "dict",data:=.dict #[] }) sc.names):=T.keep _ _ _ st3 fun b _ o e=>pushCells_keeps _ _ _ _ (Heap.get?_push_of_some _ e)
 have stat:∀{H':Hp},(∀b∈fp,H' b=none)->∀b∈fp,y0O (z0E X N' sc s3 (upd H D (.lst [])) fp pins En) [] H' b:=fun hn b hb=>
  ⟨hn b hb,(I4.ok.exf b hb).1,I4.ok.exfs b hb,.inl hb,(I4.ok.exf b hb).2,fun p hp=>(hf3 b hb).2.2.2.2.2 p (by
   rcases ar.mp hp with z | z
   ·exact z
   ·exact nomatch z)⟩
 obtain⟨Pg,Pt,Pe⟩:=P s3 (upd H D (.lst [])) En (by rw[←hEn];exact hP D s3 _ I3 hf3)
 have loop:codeAny (model X.prog X.w) X.A (.compLoop (.ListComp elt [⟨tg,iter,ifs,0⟩] sc pos) 0 (.ref it) (.ref D) (z0E X N' sc s3 (upd H D (.lst [])) fp pins En).env) (RR (.ref D) s3.heap.objs.size)
   { s3 with heap:=pushCells (s3.heap.push { cls:=.type "dict",data:=.dict #[] }) sc.names }:=by
  refine y1a (fun n s'=>∃i σ' H',Inv (z0E X N' sc s3 (upd H D (.lst [])) fp pins En) [] σ' H' s'∧tn i s'.heap∧(∀b∈fp,H' b=none)∧W i n σ' H') ?_ m0 ⟨0,_,_,I4,st4,fun b hb=>(hf3 b hb).1,w0⟩
  have eEn:(notedBy (model X.prog X.w) X.A (z0E X N' sc s3 (upd H D (.lst [])) fp pins En).env fun e s'=>RR (.ref D) s3.heap.objs.size (.error e) s')=En:=hEn
  rw[eEn]
  rintro n s5 ⟨i,σ5,H5,I5,st5,fr5,w5⟩
  rcases step i n σ5 H5 w5 with⟨stop,qn⟩ | ⟨go,N,hN,turn⟩
  ·refine thn (T.done (z0E X N' sc s3 (upd H D (.lst [])) fp pins En) rfl rfl rfl hc i [] s5 σ5 H5 En I5 (stat fr5) st5 stop) fun r s6 ⟨hr,I6⟩=>?_
   subst hr
   exact hR D s3 _ σ5 H5 s6 En I3 hf3 I6 qn
  ·refine thn (T.item (z0E X N' sc s3 (upd H D (.lst [])) fp pins En) rfl rfl rfl hc i [] s5 σ5 H5 En I5 (stat fr5) st5 go) fun r s6 ⟨u,hr,h6⟩=>?_
   subst hr
   refine thn h6 fun _ s7 ⟨x,H7,I7,r7,y7,st7,fr7⟩=>?_
   have I7':=I7.pinned (stat fr7) (T.obj _ _ st7)
   have back:∀{σ9:St} {H9:Hp} {s9:Shared},Inv (z0E X N' sc s3 (upd H D (.lst [])) fp pins En) ([]++y1D fp s7.heap) σ9 H9 s9->N σ9 H9 →
     ∃m,m<n∧∃i σ' H',Inv (z0E X N' sc s3 (upd H D (.lst [])) fp pins En) [] σ' H' s9∧tn i s9.heap∧(∀b∈fp,H' b=none)∧W i m σ' H':=fun {σ9 H9 s9} I9 n9=>by
    obtain⟨m',hm,w9⟩:=hN σ9 H9 n9
    refine⟨m',hm,i+1,σ9,H9,I9.unpinned,T.keep _ _ _ st7 fun b hb o e=>(I9.pin (b,o) (aQ _ (aQ _ (z3T hb e)))).1,fun b hb=>?_,w9⟩
    obtain⟨o,e,d⟩:=T.obj _ _ st7 b hb
    exact(I9.pin (b,o) (aQ _ (aQ _ (z3T hb e)))).2.1
   refine thn (Pg _ s7 σ5 H7 x u _ I7' r7 (turn x H7 y7)) fun _ s8 ⟨σ8,H8,I8,q8⟩=>?_
   refine thn (Pt _ s8 σ8 H8 _ I8 q8) fun ok s9 ⟨H9,I9,q9⟩=>?_
   cases ok with
   |false=>
    rw[if_neg ak]at q9
    rw[if_neg ak]
    exact back I9 q9
   |true=>
    rw[if_pos rfl]at q9
    rw[if_pos rfl]
    refine thn (Pe _ s9 σ8 H9 _ I9 q9) fun y s10 ⟨yv,H10,I10,r10,ys,hys,hl,q10⟩=>?_
    refine thn (z3Q _ s10 σ8 H10 (.ref D) [yv] (.ref D) [y] (fun _ H'=>N σ8 H') I10 rfl (.cons r10 .nil) ⟨D,ys,yv,rfl,rfl,hys,hl,q10⟩) fun _ s11 ⟨_,H11,I11,_,q11⟩=>?_
    exact back I11 q11
 exact codeAny_compStart_list loop (T.self X.A 0 _ _ _ st4 loop)
theorem CompScope.names'{N:List Str}{out:List (Str×NameKind)}(S:CompScope N out N' k sc):∀x∈sc.names,x.2 = .local->sc.names.lookup x.1=some .local:=fun x hx e=>by
 obtain⟨n,kd⟩:=x
 have e':kd = .local:=e
 subst e'
 exact S.look hx
theorem y2V(hc:X.calm=true)(S:CompScope X.N X.env.scope.names N' k sc)(hi:PI X tg iter wi)(P:PComp X N' sc tg ifs elt g tc te)(hs:∀x,foldedSetIterable iter X.env x=pure x:=by intro _;rfl):
  PE X (.ListComp elt [⟨tg,iter,ifs,0⟩] sc pos) (y9c wi g tc te k):=by
 intro pins s σ H Q I h
 rw[eval_ListComp]
 refine wpAny_comprehension_free (use:=none) rfl hs (z3o fun n hn=>I.ok.has n (S.fr hn)) S.kind S.names' (thn (hi pins s σ H _ I h) fun v s1 h1=>thn h1 fun itv s2 h2=>?_)
 obtain⟨it,fp,tn,J,H2,e,I2,T,st2,f2,hW⟩:=h2
 subst e
 refine z8p (Q:=Q) (RR:=fun acc C=>compPost (model X.prog X.w) X.A X.xe none (EP X pins σ Q) acc C) (PC:=fun _ _ _=>True) hc S (fun s H E _=>⟨P.pg s H _ _ E,P.pt s H _ _ E,P.pe s H _ _ E⟩) (fun _ _ _ _ _=>trivial) I2 T st2 f2 hW ?_
 intro D s3 H3 σ' H' s' E' I3 f3 J' q
 obtain⟨m,hn,_⟩:=J'.loc
 exact⟨m,hn,fun h' hb=>⟨.ref D,H',y8K I3 (y1n I3 f3 J') J'.free hb,rfl,q⟩⟩
theorem ps_setc{i:Nat}{y:Str}{py spos:Pos}(hc:X.calm=true)(S:CompScope X.N X.env.scope.names N' k sc)(hN:X.N.Nodup)(hy:X.N[i]? = some y)(hyl:X.env.scope.names.lookup y=some .local)(hi:PI X tg iter wi)(P:PComp X N' sc tg ifs elt g tc te)
  (hsw:swapsWith (.ListComp elt [⟨tg,iter,ifs,0⟩] sc pos) (some (.Name y py)) spos.line X.env=pure true:=by rfl) (hs:∀x,foldedSetIterable iter X.env x=pure x:=by intro _;rfl):
  PS X (.Assign [.Name y py] (.ListComp elt [⟨tg,iter,ifs,0⟩] sc pos) spos) (tAsg (y9c wi g tc te k) (z3f i)):=by
 intro pins s σ H D I h
 rw[exec_Assign_Name_used _ _ _ _ hsw]
 refine wpAny_bind (wpAny_standAt (wpAny_bind ?_))
 show wpAny _ X.A (do let _ ←comprehension (.ListComp elt [⟨tg,iter,ifs,0⟩] sc pos) sc X.env _ (newList []) false (eval iter X.env) (some (assign (.Name y py) X.env))) _ _ s
 refine wpAny_bind (wpAny_mono (wpAny_comprehension_free (use:=some (assign (.Name y py) X.env)) (Q:=fun _ s'=>SP X pins D .next s') rfl hs (z3o fun n hn=>I.ok.has n (S.fr hn)) S.kind S.names'
  (thn (hi pins s σ H _ I h) fun v s1 h1=>thn h1 fun itv s2 h2=>?_)) (fun _ s' hq=>wpAny_pure (wpAny_pure hq)) fun _ _ e=>e)
 obtain⟨it,fp,tn,J,H2,e,I2,T,st2,f2,hW⟩:=h2
 subst e
 refine z8p (Q:=fun v H'=>D.nx (σ.set i (some v)) H') (RR:=fun acc C=>compPost (model X.prog X.w) X.A X.xe (some (assign (.Name y py) X.env)) (fun _ s'=>SP X pins D .next s') acc C) (PC:=fun _ _ _=>True) hc S (fun s H E _=>⟨P.pg s H _ _ E,P.pt s H _ _ E,P.pe s H _ _ E⟩) (fun _ _ _ _ _=>trivial) I2 T st2 f2 hW ?_
 intro a s3 H3 σ' H' s' E' I3 f3 J' q
 have J2:=y1n I3 f3 J'
 obtain⟨m,hn,_⟩:=J'.loc
 show wpAny _ X.A (assign (.Name y py) X.env (.ref a)) _ _ _
 refine wpAny_assign_Name (y0P J2 hN hy (.inl hyl) (v:=.ref a) rfl (fun s4 I4 hsb=>?_) (.inr hyl))
 obtain⟨b,hb,hb'⟩:=hsb
 have hne:b≠s3.heap.objs.size:=by
  rcases hb' with z | z
  ·rw[z];exact aG I3.lt
  ·obtain⟨v,w'⟩:=I3.cell y b z
   exact aG w'.lt
 refine⟨m,hn.sameBut hb (Ne.symm hne),fun h' hb2=>⟨_,H',?_,q⟩⟩
 have I3':Inv X pins (σ.set i (some (.ref a))) H3 s3∨True:=.inr trivial
 refine I4.turned (t':=s4.toks) (it:=s3.heap.objs.size) (fun b o hne e=>(hb2.2 b hne).trans e) J'.free (cF I3.lt) (.inr I3.sz) (fun x c e=>?_) fun p hp=>?_
 ·obtain⟨v,q⟩:=I3.cell x c e
  exact aG q.lt
 ·exact aG (Heap.lt_size (I3.pin p hp).1)
end
inductive D where
 |non | bl (b:Bool) | int (i:Int) | str (x:Str) | lst (xs:List D) | tup (xs:List D) | scr (ns:List Int) | dct (ks:List Key) (xs:List D) | exc (x:Str) | obj (x:Str) (a:Addr) (ks:List Str) (ds:List D) | cel (a:Addr) (ds:List D)
def y7W(K:aa)(C:Addr):Bool:=aV K (.ref C) "__getattribute__" == some (some (.builtin "BaseException.__getattribute__"))&&aV K (.ref C) "__getattr__" == some none&&bG K C (.type "BaseException")==some true&&(dM K C).isSome&&aV K (.ref C) "__class__" == some (some (.builtin "object.__class__")) &&
 bQ K (.builtin "object.__class__") "__get__" == some (some (.builtin "getset_descriptor.__get__"))&&cw K (.builtin "object.__class__")==some true&&bG K C (.type "object")==some true &&
 ["bool", "int", "str", "list", "tuple", "dict"].all fun T=>b9 K (.ref C) (.type T)==some false
def y5z(K:aa)(C:Addr)(ks:List Str):Bool:=c6 K C Str.empty&&eF K C&&eE K C&&aV K (.ref C) "__setattr__" == some (some (.builtin "object.__setattr__")) &&
 aV K (.ref C) "__class__" == some (some (.builtin "object.__class__"))&&bQ K (.builtin "object.__class__") "__get__" == some (some (.builtin "getset_descriptor.__get__"))&&cw K (.builtin "object.__class__")==some true&&bG K C (.type "object")==some true &&
 (["bool", "int", "str", "list", "tuple", "dict"].all fun T=>b9 K (.ref C) (.type T)==some false)&&ks.all fun f=>aV K (.ref C) f==some none
def isX(a C:Addr)(h:Heap):Prop:=∃o,h.get? a=some o∧o.cls = .ref C∧o.dict=none∧PySem.W.notCls o=true
def SqF(K:aa)(H:Hp)(a:Addr)(xs:List V):Prop:=
 (∃o,H a=some (.frz o (.lst xs)))∨∃(o:Obj) (its:Array Value) (n:Nat),K.lookup a=some o∧o.cls = .type "list" ∧ o.dict=none∧o.data = .seq its n∧its.size≤sizeLine∧Vals xs its.toList
theorem SqF.sq{K:aa}{H:Hp}{a:Addr}{xs:List V}(h:SqF K H a xs):SqL K H a xs:=h.elim (fun z=>.inl (.inr z)) .inr
mutual
def Rep(K:aa)(H:Hp)(B:Addr->Prop):D->V->Prop
 |.non,v=>v = .non
 |.bl b,v=>v = .bl b
 |.int i,v=>v = .int i
 |.str x,v=>v = .str x
 |.lst ds,v=>∃a xs,v = .ref a∧¬ B a∧H a=some (.lst xs)∧Reps K H B ds xs
 |.tup ds,v=>∃a xs,v = .ref a∧SqT K H a xs∧Reps K H B ds xs
 |.scr ns,v=>∃a,v = .ref a∧SqF K H a (ns.map V.int)
 |.dct ks ds,v=>∃a kvs,v = .ref a∧¬ B a∧H a=some (.dK kvs)∧kvs.map (·.1)=ks∧Reps K H B ds (kvs.map (·.2))
 |.exc x,v=>∃a C,v = .ref a∧¬ B a∧H a=some (.ext (isX a C))∧aE K mainGlobals x=some (some (.ref C))∧y7W K C=true
 |.obj x a ks ds,v=>∃C dx fs,¬ B a∧H a=some (.ins C dx fs)∧(v = .ref a∧aE K mainGlobals x=some (some (.ref C))∧y5z K C ks=true∧fs.map (·.1)=ks)∧Reps K H B ds (fs.map (·.2))
 |.cel a ds,v=>∃xs,¬ B a∧H a=some (.lst xs)∧v = .ref a∧Reps K H B ds xs
def Reps(K:aa)(H:Hp)(B:Addr->Prop):List D->List V->Prop
 |[],xs=>xs=[]
 |d::ds,xs=>∃x r,xs=x::r∧Rep K H B d x∧Reps K H B ds r
end
mutual
def Tree(K:aa)(H:Hp):D->V->List Addr->Prop
 |.non,v,A=>v = .non∧A=[]
 |.bl b,v,A=>v = .bl b∧A=[]
 |.int i,v,A=>v = .int i∧A=[]
 |.str x,v,A=>v = .str x∧A=[]
 |.lst ds,v,A=>∃a xs B,v = .ref a∧H a=some (.lst xs)∧Trees K H ds xs B∧A=a::B
 |.tup ds,v,A=>∃a xs,v = .ref a∧SqT K H a xs∧Trees K H ds xs A
 |.scr ns,v,A=>(∃a,v = .ref a∧SqF K H a (ns.map V.int))∧A=[]
 |.dct ks ds,v,A=>∃a kvs B,v = .ref a∧H a=some (.dK kvs)∧kvs.map (·.1)=ks∧Trees K H ds (kvs.map (·.2)) B∧A=a::B
 |.exc x,v,A=>∃a C,v = .ref a∧H a=some (.ext (isX a C))∧aE K mainGlobals x=some (some (.ref C))∧y7W K C=true∧A=[a]
 |.obj x a ks ds,v,A=>∃C dx fs A1,H a=some (.ins C dx fs)∧(v = .ref a∧aE K mainGlobals x=some (some (.ref C))∧y5z K C ks=true∧fs.map (·.1)=ks)∧Trees K H ds (fs.map (·.2)) A1∧A=a::A1
 |.cel a ds,v,A=>∃xs B,H a=some (.lst xs)∧v = .ref a∧Trees K H ds xs B∧A=a::B
def Trees(K:aa)(H:Hp):List D->List V->List Addr->Prop
 |[],xs,A=>xs=[]∧A=[]
 |d::ds,xs,A=>∃x r B C,xs=x::r∧Tree K H d x B∧Trees K H ds r C∧A=B++C
end
mutual
def D.imm:D->Bool
 |.non=>true
 |.bl _=>true
 |.int _=>true
 |.str _=>true
 |.lst _=>false
 |.tup ds=>z2T ds
 |.scr _=>true
 |.dct _ _=>false
 |.exc _=>false
 |.obj _ _ _ _=>false
 |.cel _ _=>false
def z2T:List D->Bool
 |[]=>true
 |d::ds=>d.imm&&z2T ds
end
theorem Same.tup{K:aa}{H H':Hp}{a:Addr}{xs:List V}(e:Same H H')(h:SqT K H a xs):SqT K H' a xs:=by
 rcases h with (h | ⟨o,h⟩) | h
 ·exact .inl (.inl (e _ _ h))
 ·exact .inl (.inr ⟨o,e _ _ h⟩)
 ·exact .inr h
section
variable{K:aa}{H H':Hp}{B B':Addr->Prop}
structure KeepI(K:aa)(H H':Hp):Prop where
 st:∀a xs,SqT K H a xs->SqT K H' a xs
 sf:∀a xs,SqF K H a xs->SqF K H' a xs
structure Keep(K:aa)(B:Addr->Prop)(H H':Hp):Prop where
 sl:∀a xs,¬ B a->H a=some (.lst xs)->H' a=some (.lst xs)
 st:∀a xs,SqT K H a xs->SqT K H' a xs
 sf:∀a xs,SqF K H a xs->SqF K H' a xs
 sd:∀a kvs,¬ B a->H a=some (.dK kvs)->H' a=some (.dK kvs)
 sx:∀a φ,¬ B a->H a=some (.ext φ)->H' a=some (.ext φ)
 si:∀a C dx fs,¬ B a->H a=some (.ins C dx fs)->H' a=some (.ins C dx fs)
theorem Keep.i(k:Keep K B H H'):KeepI K H H':=⟨k.st,k.sf⟩
mutual
theorem Rep.keep(k:Keep K B H H'):∀(d:D) {v:V},Rep K H B d v->Rep K H' B d v
 |.non,_,h=>h
 |.bl _,_,h=>h
 |.int _,_,h=>h
 |.str _,_,h=>h
 |.lst ds,_,h=>by
  unfold Rep at h ⊢
  obtain⟨a,xs,e,n,s,r⟩:=h
  exact⟨a,xs,e,n,k.sl a xs n s,Reps.keep k ds r⟩
 |.tup ds,_,h=>by
  unfold Rep at h ⊢
  obtain⟨a,xs,e,s,r⟩:=h
  exact⟨a,xs,e,k.st a xs s,Reps.keep k ds r⟩
 |.scr ns,_,h=>by
  unfold Rep at h ⊢
  obtain⟨a,e,s⟩:=h
  exact⟨a,e,k.sf a _ s⟩
 |.dct ks ds,_,h=>by
  unfold Rep at h ⊢
  obtain⟨a,kvs,e,n,s,q,r⟩:=h
  exact⟨a,kvs,e,n,k.sd a kvs n s,q,Reps.keep k ds r⟩
 |.exc _,_,h=>by
  unfold Rep at h ⊢
  obtain⟨a,C,e,n,s,r⟩:=h
  exact⟨a,C,e,n,k.sx a _ n s,r⟩
 |.obj x a ks ds,_,h=>by
  unfold Rep at h ⊢
  obtain⟨C,dx,fs,n,s,q,r1⟩:=h
  exact⟨C,dx,fs,n,k.si a C dx fs n s,q,Reps.keep k ds r1⟩
 |.cel a ds,_,h=>by
  unfold Rep at h ⊢
  obtain⟨xs,n,s,e,r⟩:=h
  exact⟨xs,n,k.sl a xs n s,e,Reps.keep k ds r⟩
theorem Reps.keep(k:Keep K B H H'):∀(ds:List D) {xs:List V},Reps K H B ds xs->Reps K H' B ds xs
 |[],_,h=>h
 |d::ds,_,h=>by
  unfold Reps at h ⊢
  obtain⟨x,r,e,h1,h2⟩:=h
  exact⟨x,r,e,Rep.keep k d h1,Reps.keep k ds h2⟩
end
mutual
theorem Rep.anti(hb:∀a,B' a->B a):∀(d:D) {v:V},Rep K H B d v->Rep K H B' d v
 |.non,_,h=>h
 |.bl _,_,h=>h
 |.int _,_,h=>h
 |.str _,_,h=>h
 |.lst ds,_,h=>by
  unfold Rep at h ⊢
  obtain⟨a,xs,e,n,s,r⟩:=h
  exact⟨a,xs,e,fun z=>n (hb a z),s,Reps.anti hb ds r⟩
 |.tup ds,_,h=>by
  unfold Rep at h ⊢
  obtain⟨a,xs,e,s,r⟩:=h
  exact⟨a,xs,e,s,Reps.anti hb ds r⟩
 |.scr _,_,h=>h
 |.dct ks ds,_,h=>by
  unfold Rep at h ⊢
  obtain⟨a,kvs,e,n,s,q,r⟩:=h
  exact⟨a,kvs,e,fun z=>n (hb a z),s,q,Reps.anti hb ds r⟩
 |.exc _,_,h=>by
  unfold Rep at h ⊢
  obtain⟨a,C,e,n,r⟩:=h
  exact⟨a,C,e,fun z=>n (hb a z),r⟩
 |.obj x a ks ds,_,h=>by
  unfold Rep at h ⊢
  obtain⟨C,dx,fs,n,s,q,r1⟩:=h
  exact⟨C,dx,fs,fun z=>n (hb a z),s,q,Reps.anti hb ds r1⟩
 |.cel a ds,_,h=>by
  unfold Rep at h ⊢
  obtain⟨xs,n,s,e,r⟩:=h
  exact⟨xs,fun z=>n (hb a z),s,e,Reps.anti hb ds r⟩
theorem Reps.anti(hb:∀a,B' a->B a):∀(ds:List D) {xs:List V},Reps K H B ds xs->Reps K H B' ds xs
 |[],_,h=>h
 |d::ds,_,h=>by
  unfold Reps at h ⊢
  obtain⟨x,r,e,h1,h2⟩:=h
  exact⟨x,r,e,Rep.anti hb d h1,Reps.anti hb ds h2⟩
end
mutual
theorem Rep.imm:∀(d:D) {v:V},d.imm=true->Rep K H B d v->Rep K H B' d v
 |.non,_,_,h=>h
 |.bl _,_,_,h=>h
 |.int _,_,_,h=>h
 |.str _,_,_,h=>h
 |.lst _,_,i,_=>by unfold D.imm at i;cases i
 |.dct _ _,_,i,_=>by unfold D.imm at i;cases i
 |.exc _,_,i,_=>by unfold D.imm at i;cases i
 |.obj _ _ _ _,_,i,_=>by unfold D.imm at i;cases i
 |.cel _ _,_,i,_=>by unfold D.imm at i;cases i
 |.tup ds,_,i,h=>by
  unfold D.imm at i
  unfold Rep at h ⊢
  obtain⟨a,xs,e,s,r⟩:=h
  exact⟨a,xs,e,s,Reps.imm ds i r⟩
 |.scr _,_,_,h=>h
theorem Reps.imm:∀(ds:List D) {xs:List V},z2T ds=true->Reps K H B ds xs->Reps K H B' ds xs
 |[],_,_,h=>h
 |d::ds,_,i,h=>by
  unfold z2T at i
  rw[aA]at i
  unfold Reps at h ⊢
  obtain⟨x,r,e,h1,h2⟩:=h
  exact⟨x,r,e,Rep.imm d i.1 h1,Reps.imm ds i.2 h2⟩
end
mutual
theorem Rep.immTree:∀(d:D) {v:V},d.imm=true->Rep K H B d v->Tree K H d v []
 |.non,_,_,h=>⟨h,rfl⟩
 |.bl _,_,_,h=>⟨h,rfl⟩
 |.int _,_,_,h=>⟨h,rfl⟩
 |.str _,_,_,h=>⟨h,rfl⟩
 |.lst _,_,i,_=>by unfold D.imm at i;cases i
 |.dct _ _,_,i,_=>by unfold D.imm at i;cases i
 |.exc _,_,i,_=>by unfold D.imm at i;cases i
 |.obj _ _ _ _,_,i,_=>by unfold D.imm at i;cases i
 |.cel _ _,_,i,_=>by unfold D.imm at i;cases i
 |.tup ds,_,i,h=>by
  unfold D.imm at i
  unfold Rep at h
  unfold Tree
  obtain⟨a,xs,e,s,r⟩:=h
  exact⟨a,xs,e,s,Reps.immTree ds i r⟩
 |.scr _,_,_,h=>⟨h,rfl⟩
theorem Reps.immTree:∀(ds:List D) {xs:List V},z2T ds=true->Reps K H B ds xs->Trees K H ds xs []
 |[],_,_,h=>⟨h,rfl⟩
 |d::ds,_,i,h=>by
  unfold z2T at i
  rw[aA]at i
  unfold Reps at h
  unfold Trees
  obtain⟨x,r,e,h1,h2⟩:=h
  exact⟨x,r,[],[],e,Rep.immTree d i.1 h1,Reps.immTree ds i.2 h2,rfl⟩
end
mutual
theorem Tree.rep:∀(d:D) {v:V} {A:List Addr},Tree K H d v A->(∀a∈A,¬ B a)->Rep K H B d v
 |.non,_,_,h,_=>h.1
 |.bl _,_,_,h,_=>h.1
 |.int _,_,_,h,_=>h.1
 |.str _,_,_,h,_=>h.1
 |.lst ds,_,_,h,n=>by
  unfold Tree at h
  unfold Rep
  obtain⟨a,xs,C,e,s,r,rfl⟩:=h
  exact⟨a,xs,e,n a af,s,Trees.rep ds r fun b hb=>n b (ae _ hb)⟩
 |.tup ds,_,_,h,n=>by
  unfold Tree at h
  unfold Rep
  obtain⟨a,xs,e,s,r⟩:=h
  exact⟨a,xs,e,s,Trees.rep ds r n⟩
 |.scr _,_,_,h,_=>h.1
 |.dct ks ds,_,_,h,n=>by
  unfold Tree at h
  unfold Rep
  obtain⟨a,kvs,C,e,s,q,r,rfl⟩:=h
  exact⟨a,kvs,e,n a af,s,q,Trees.rep ds r fun b hb=>n b (ae _ hb)⟩
 |.exc _,_,_,h,n=>by
  unfold Tree at h
  unfold Rep
  obtain⟨a,C,e,s,r1,r2,rfl⟩:=h
  exact⟨a,C,e,n a af,s,r1,r2⟩
 |.obj x a ks ds,_,_,h,n=>by
  unfold Tree at h
  unfold Rep
  obtain⟨C,dx,fs,A1,s,q,r1,rfl⟩:=h
  exact⟨C,dx,fs,n a af,s,q,Trees.rep ds r1 fun b hb=>n b (ae _ hb)⟩
 |.cel a ds,_,_,h,n=>by
  unfold Tree at h
  unfold Rep
  obtain⟨xs,C,s,e,r,rfl⟩:=h
  exact⟨xs,n a af,s,e,Trees.rep ds r fun b hb=>n b (ae _ hb)⟩
theorem Trees.rep:∀(ds:List D) {xs:List V} {A:List Addr},Trees K H ds xs A->(∀a∈A,¬ B a)->Reps K H B ds xs
 |[],_,_,h,_=>h.1
 |d::ds,_,_,h,n=>by
  unfold Trees at h
  unfold Reps
  obtain⟨x,r,C,C',e,h1,h2,rfl⟩:=h
  exact⟨x,r,e,Tree.rep d h1 fun b hb=>n b (bX _ hb),Trees.rep ds h2 fun b hb=>n b (aQ _ hb)⟩
end
mutual
theorem Tree.keep(kt:KeepI K H H'):∀(d:D) {v:V} {A:List Addr},Tree K H d v A->(∀a∈A,∀o,H a=some o->H' a=some o)->Tree K H' d v A
 |.non,_,_,h,_=>h
 |.bl _,_,_,h,_=>h
 |.int _,_,_,h,_=>h
 |.str _,_,_,h,_=>h
 |.lst ds,_,_,h,n=>by
  unfold Tree at h ⊢
  obtain⟨a,xs,C,e,s,r,rfl⟩:=h
  exact⟨a,xs,C,e,n a af _ s,Trees.keep kt ds r fun b hb=>n b (ae _ hb),rfl⟩
 |.tup ds,_,_,h,n=>by
  unfold Tree at h ⊢
  obtain⟨a,xs,e,s,r⟩:=h
  exact⟨a,xs,e,kt.st a xs s,Trees.keep kt ds r n⟩
 |.scr _,_,_,h,_=>by
  unfold Tree at h ⊢
  obtain⟨⟨a,e,s⟩,q⟩:=h
  exact⟨⟨a,e,kt.sf a _ s⟩,q⟩
 |.dct ks ds,_,_,h,n=>by
  unfold Tree at h ⊢
  obtain⟨a,kvs,C,e,s,q,r,rfl⟩:=h
  exact⟨a,kvs,C,e,n a af _ s,q,Trees.keep kt ds r fun b hb=>n b (ae _ hb),rfl⟩
 |.exc _,_,_,h,n=>by
  unfold Tree at h ⊢
  obtain⟨a,C,e,s,r1,r2,rfl⟩:=h
  exact⟨a,C,e,n a af _ s,r1,r2,rfl⟩
 |.obj x a ks ds,_,_,h,n=>by
  unfold Tree at h ⊢
  obtain⟨C,dx,fs,A1,s,q,r1,rfl⟩:=h
  exact⟨C,dx,fs,A1,n a af _ s,q,Trees.keep kt ds r1 fun b hb=>n b (ae _ hb),rfl⟩
 |.cel a ds,_,_,h,n=>by
  unfold Tree at h ⊢
  obtain⟨xs,C,s,e,r,rfl⟩:=h
  exact⟨xs,C,n a af _ s,e,Trees.keep kt ds r fun b hb=>n b (ae _ hb),rfl⟩
theorem Trees.keep(kt:KeepI K H H'):∀(ds:List D) {xs:List V} {A:List Addr},Trees K H ds xs A->(∀a∈A,∀o,H a=some o->H' a=some o)->Trees K H' ds xs A
 |[],_,_,h,_=>h
 |d::ds,_,_,h,n=>by
  unfold Trees at h ⊢
  obtain⟨x,r,C,C',e,h1,h2,rfl⟩:=h
  exact⟨x,r,C,C',e,Tree.keep kt d h1 fun b hb=>n b (bX _ hb),Trees.keep kt ds h2 fun b hb=>n b (aQ _ hb),rfl⟩
end
mutual
theorem Tree.held:∀(d:D) {v:V} {A:List Addr},Tree K H d v A->∀a∈A,∃o,H a=some o∧Mut (some o)
 |.non,_,_,h,a,ha=>by rw[h.2]at ha;cases ha
 |.bl _,_,_,h,a,ha=>by rw[h.2]at ha;cases ha
 |.int _,_,_,h,a,ha=>by rw[h.2]at ha;cases ha
 |.str _,_,_,h,a,ha=>by rw[h.2]at ha;cases ha
 |.lst ds,_,_,h,b,hb=>by
  unfold Tree at h
  obtain⟨a,xs,C,e,s,r,rfl⟩:=h
  rcases ao.mp hb with z | z
  ·subst z;exact⟨_,s,trivial⟩
  ·exact Trees.held ds r b z
 |.tup ds,_,_,h,b,hb=>by
  unfold Tree at h
  obtain⟨a,xs,e,s,r⟩:=h
  exact Trees.held ds r b hb
 |.scr _,_,_,h,a,ha=>by rw[h.2]at ha;cases ha
 |.dct ks ds,_,_,h,b,hb=>by
  unfold Tree at h
  obtain⟨a,kvs,C,e,s,q,r,rfl⟩:=h
  rcases ao.mp hb with z | z
  ·subst z;exact⟨_,s,trivial⟩
  ·exact Trees.held ds r b z
 |.exc _,_,_,h,b,hb=>by
  unfold Tree at h
  obtain⟨a,C,e,s,r1,r2,rfl⟩:=h
  rw[aq.mp hb]
  exact⟨_,s,trivial⟩
 |.obj x a ks ds,_,_,h,b,hb=>by
  unfold Tree at h
  obtain⟨C,dx,fs,A1,s,q,r1,rfl⟩:=h
  rcases ao.mp hb with z | z
  ·subst z;exact⟨_,s,trivial⟩
  ·exact Trees.held ds r1 b z
 |.cel a ds,_,_,h,b,hb=>by
  unfold Tree at h
  obtain⟨xs,C,s,e,r,rfl⟩:=h
  rcases ao.mp hb with z | z
  ·subst z;exact⟨_,s,trivial⟩
  ·exact Trees.held ds r b z
theorem Trees.held:∀(ds:List D) {xs:List V} {A:List Addr},Trees K H ds xs A->∀a∈A,∃o,H a=some o∧Mut (some o)
 |[],_,_,h,a,ha=>by rw[h.2]at ha;cases ha
 |d::ds,_,_,h,b,hb=>by
  unfold Trees at h
  obtain⟨x,r,C,C',e,h1,h2,rfl⟩:=h
  rcases ar.mp hb with z | z
  ·exact Tree.held d h1 b z
  ·exact Trees.held ds h2 b z
end
theorem Same.sf(e:Same H H'){a:Addr}{xs:List V}(h:SqF K H a xs):SqF K H' a xs:=h.elim (fun⟨o,z⟩=>.inl ⟨o,e _ _ z⟩) .inr
theorem Keep.same(e:Same H H'):Keep K B H H':=⟨fun _ _ _ h=>e _ _ h,fun _ _ h=>e.tup h,fun _ _ h=>e.sf h,fun _ _ _ h=>e _ _ h,fun _ _ _ h=>e _ _ h,fun _ _ _ _ _ h=>e _ _ h⟩
theorem KeepI.same(e:Same H H'):KeepI K H H':=⟨fun _ _ h=>e.tup h,fun _ _ h=>e.sf h⟩
theorem Rep.mono{d:D}{v:V}(h:Rep K H B d v)(e:Same H H'):Rep K H' B d v:=Rep.keep (.same e) d h
theorem Reps.mono{ds:List D}{xs:List V}(h:Reps K H B ds xs)(e:Same H H'):Reps K H' B ds xs:=Reps.keep (.same e) ds h
theorem Tree.mono{d:D}{v:V}{A:List Addr}(h:Tree K H d v A)(e:Same H H'):Tree K H' d v A:=Tree.keep (.same e) d h fun a _ o z=>e a o z
theorem Trees.mono{ds:List D}{v:List V}{A:List Addr}(h:Trees K H ds v A)(e:Same H H'):Trees K H' ds v A:=Trees.keep (.same e) ds h fun a _ o z=>e a o z
mutual
theorem Rep.wide{C:Addr->Prop}(hc:∀a,C a->H a=none):∀(d:D) {v:V},Rep K H B d v->Rep K H (fun a=>B a∨C a) d v
 |.non,_,h=>h
 |.bl _,_,h=>h
 |.int _,_,h=>h
 |.str _,_,h=>h
 |.lst ds,_,h=>by
  unfold Rep at h ⊢
  obtain⟨a,xs,e,n,s,r⟩:=h
  refine⟨a,xs,e,fun z=>z.elim n fun z=>?_,s,Reps.wide hc ds r⟩
  rw[hc a z]at s;cases s
 |.tup ds,_,h=>by
  unfold Rep at h ⊢
  obtain⟨a,xs,e,s,r⟩:=h
  exact⟨a,xs,e,s,Reps.wide hc ds r⟩
 |.scr _,_,h=>h
 |.dct ks ds,_,h=>by
  unfold Rep at h ⊢
  obtain⟨a,kvs,e,n,s,q,r⟩:=h
  refine⟨a,kvs,e,fun z=>z.elim n fun z=>?_,s,q,Reps.wide hc ds r⟩
  rw[hc a z]at s;cases s
 |.exc _,_,h=>by
  unfold Rep at h ⊢
  obtain⟨a,C,e,n,s,r⟩:=h
  refine⟨a,C,e,fun z=>z.elim n fun z=>?_,s,r⟩
  rw[hc a z]at s;cases s
 |.obj x a ks ds,_,h=>by
  unfold Rep at h ⊢
  obtain⟨C',dx,fs,n,s,q,r1⟩:=h
  refine⟨C',dx,fs,fun z=>z.elim n fun z=>?_,s,q,Reps.wide hc ds r1⟩
  rw[hc a z]at s;cases s
 |.cel a ds,_,h=>by
  unfold Rep at h ⊢
  obtain⟨xs,n,s,e,r⟩:=h
  refine⟨xs,fun z=>z.elim n fun z=>?_,s,e,Reps.wide hc ds r⟩
  rw[hc a z]at s;cases s
theorem Reps.wide{C:Addr->Prop}(hc:∀a,C a->H a=none):∀(ds:List D) {xs:List V},Reps K H B ds xs->Reps K H (fun a=>B a∨C a) ds xs
 |[],_,h=>h
 |d::ds,_,h=>by
  unfold Reps at h ⊢
  obtain⟨x,r,e,h1,h2⟩:=h
  exact⟨x,r,e,Rep.wide hc d h1,Reps.wide hc ds h2⟩
end
theorem Keep.upd{a:Addr}{o:HO}(hb:B a)(mu:Mut (H a)):Keep K B H (upd H a o):=by
 refine⟨fun b xs n h=>?_,fun b xs h=>?_,fun b xs h=>?_,fun b kvs n h=>?_,fun b φ n h=>?_,fun b C dx fs n h=>?_⟩
 ·have ne:b≠a:=fun z=>n (z ▸ hb)
  rw[z0t ne];exact h
 ·rcases h with (h | ⟨u,h⟩) | h
  ·have ne:b≠a:=fun z=>by subst z;rw[h]at mu;exact mu
   exact .inl (.inl (by rw[z0t ne];exact h))
  ·have ne:b≠a:=fun z=>by subst z;rw[h]at mu;exact mu
   exact .inl (.inr ⟨u,by rw[z0t ne];exact h⟩)
  ·exact .inr h
 ·rcases h with⟨u,h⟩ | h
  ·have ne:b≠a:=fun z=>by subst z;rw[h]at mu;exact mu
   exact .inl ⟨u,by rw[z0t ne];exact h⟩
  ·exact .inr h
 ·have ne:b≠a:=fun z=>n (z ▸ hb)
  rw[z0t ne];exact h
 ·have ne:b≠a:=fun z=>n (z ▸ hb)
  rw[z0t ne];exact h
 ·have ne:b≠a:=fun z=>n (z ▸ hb)
  rw[z0t ne];exact h
theorem z0n{a:Addr}{o:HO}(h:H a=none):Same H (upd H a o):=fun b u e=>by rw[z0t (z1e e h)];exact e
theorem Reps.length:∀{ds:List D} {xs:List V},Reps K H B ds xs->ds.length=xs.length
 |[],_,h=>by unfold Reps at h;subst h;rfl
 |d::ds,_,h=>by
  unfold Reps at h
  obtain⟨x,r,rfl,_,h2⟩:=h
  simp[Reps.length h2]
theorem Reps.get:∀{ds:List D} {xs:List V} {i:Nat} {d:D},Reps K H B ds xs->ds[i]? = some d->∃x,xs[i]? = some x∧Rep K H B d x
 |[],_,_,_,_,e=>by simp at e
 |d::ds,_,i,d',h,e=>by
  unfold Reps at h
  obtain⟨x,r,rfl,h1,h2⟩:=h
  cases i with
  |zero=>simp at e;subst e;exact⟨x,rfl,h1⟩
  |succ i=>simpa using Reps.get (i:=i) h2 (by simpa using e)
theorem Reps.get':∀{ds:List D} {xs:List V} {i:Nat} {x:V},Reps K H B ds xs->xs[i]? = some x->∃d,ds[i]? = some d∧Rep K H B d x
 |[],_,_,_,h,e=>by unfold Reps at h;subst h;simp at e
 |d::ds,_,i,x',h,e=>by
  unfold Reps at h
  obtain⟨x,r,rfl,h1,h2⟩:=h
  cases i with
  |zero=>simp at e;subst e;exact⟨d,rfl,h1⟩
  |succ i=>simpa using Reps.get' (i:=i) h2 (by simpa using e)
theorem Reps.append:∀{ds es:List D} {xs ys:List V},Reps K H B ds xs->Reps K H B es ys->Reps K H B (ds++es) (xs++ys)
 |[],_,_,_,h,h'=>by unfold Reps at h;subst h;exact h'
 |d::ds,es,_,ys,h,h'=>by
  unfold Reps at h
  obtain⟨x,r,rfl,h1,h2⟩:=h
  exact(show Reps K H B (d::(ds++es)) (x::(r++ys)) by unfold Reps;exact⟨x,r++ys,rfl,h1,Reps.append h2 h'⟩)
theorem Reps.take:∀{ds:List D} {xs:List V} (n:Nat),Reps K H B ds xs->Reps K H B (ds.take n) (xs.take n)
 |_,_,0,_=>by rw[List.take_zero,List.take_zero];unfold Reps;rfl
 |[],_,_+1,h=>by unfold Reps at h;subst h;unfold Reps;rfl
 |d::ds,_,n+1,h=>by
  unfold Reps at h
  obtain⟨x,r,rfl,h1,h2⟩:=h
  rw[eM,eM]
  unfold Reps
  exact⟨x,_,rfl,h1,Reps.take n h2⟩
theorem Reps.drop:∀{ds:List D} {xs:List V} (n:Nat),Reps K H B ds xs->Reps K H B (ds.drop n) (xs.drop n)
 |_,_,0,h=>h
 |[],_,_+1,h=>by unfold Reps at h;subst h;unfold Reps;rfl
 |d::ds,_,n+1,h=>by
  unfold Reps at h
  obtain⟨x,r,rfl,h1,h2⟩:=h
  exact Reps.drop n h2
theorem Reps.one{d:D}{x:V}(h:Rep K H B d x):Reps K H B [d] [x]:=by unfold Reps;exact⟨x,[],rfl,h,by unfold Reps;rfl⟩
theorem Reps.nil:Reps K H B [] []:=by unfold Reps;rfl
theorem Reps.cons{d:D}{x:V}{ds:List D}{xs:List V}(h:Rep K H B d x)(h':Reps K H B ds xs):Reps K H B (d::ds) (x::xs):=by unfold Reps;exact⟨x,xs,rfl,h,h'⟩
theorem Reps.snoc{d:D}{x:V}{ds:List D}{xs:List V}(h':Reps K H B ds xs)(h:Rep K H B d x):Reps K H B (ds++[d]) (xs++[x]):=h'.append (.one h)
theorem Trees.nil:Trees K H [] [] []:=⟨rfl,rfl⟩
theorem Trees.snoc:∀{ds:List D} {xs:List V} {A C:List Addr} {d:D} {x:V},Trees K H ds xs A->Tree K H d x C->Trees K H (ds++[d]) (xs++[x]) (A++C)
 |[],_,_,C,d,x,h,h'=>by
  obtain⟨rfl,rfl⟩:=h
  exact(show Trees K H [d] [x] C by unfold Trees;exact⟨x,[],C,[],rfl,h',⟨rfl,rfl⟩,(aL _).symm⟩)
 |e::ds,_,_,C,d,x,h,h'=>by
  unfold Trees at h
  obtain⟨y,r,A1,A2,rfl,h1,h2,rfl⟩:=h
  exact(show Trees K H (e::(ds++[d])) (y::(r++[x])) (A1++A2++C) by unfold Trees;exact⟨y,_,A1,A2++C,rfl,h1,Trees.snoc h2 h',aR _ _ _⟩)
end
abbrev DS:=List (Option D)
abbrev DE:=DS->Option D
structure RepS(K:aa)(H:Hp)(B:Addr->Prop)(σ:St)(δ:DS):Prop where
 len:δ.length=σ.length
 get:∀(i:Nat) (d:D),δ[i]? = some (some d)->∃v,σ[i]? = some (some v)∧Rep K H B d v
def InB(B:Addr->Prop)(H:Hp):Prop:=∀a,B a->∃o,H a=some o
def noB:Addr->Prop:=fun _=>False
theorem InB.mono{B:Addr->Prop}{H H':Hp}(h:InB B H)(e:Same H H'):InB B H':=fun a b=>let⟨o,q⟩:=h a b;⟨o,e a o q⟩
theorem InB.no{H:Hp}:InB noB H:=fun _ b=>b.elim
theorem InB.fresh{B:Addr->Prop}{H:Hp}(h:InB B H){a:Addr}(e:H a=none):¬ B a:=fun b=>by
 obtain⟨o,q⟩:=h a b
 rw[e]at q;cases q
theorem RepS.mono{K:aa}{H H':Hp}{B:Addr->Prop}{σ:St}{δ:DS}(h:RepS K H B σ δ)(e:Same H H'):RepS K H' B σ δ:=
 ⟨h.len,fun i d q=>let⟨v,a,r⟩:=h.get i d q;⟨v,a,r.mono e⟩⟩
theorem RepS.anti{K:aa}{H:Hp}{B B':Addr->Prop}{σ:St}{δ:DS}(h:RepS K H B σ δ)(e:∀a,B' a->B a):RepS K H B' σ δ:=
 ⟨h.len,fun i d q=>let⟨v,a,r⟩:=h.get i d q;⟨v,a,r.anti e⟩⟩
def tD(K:aa)(f:DE):TE:=fun σ H Q=>∃B δ d,InB B H∧RepS K H B σ δ∧f δ=some d∧∀v H',Same H H'->Rep K H' B d v->Q v H'
def tF(K:aa)(f:DS->Option (List D)):TE:=fun σ H Q=>∃B δ ds,InB B H∧RepS K H B σ δ∧f δ=some ds ∧
 ∀a xs H',Same H H'->H a=none->H' a=some (.lst xs)->Reps K H' B ds xs->Q (.ref a) H'
def tN(K:aa)(f:DE):TE:=fun σ H Q=>∃δ d,RepS K H noB σ δ∧f δ=some d∧∀v H' A,Same H H'->Tree K H' d v A->A.Nodup->(∀a∈A,H a=none)->Q v H'
def tT(K:aa)(f:DS->Option Bool):TT:=fun σ H Q=>∃B δ b,InB B H∧RepS K H B σ δ∧f δ=some b∧∀H',Same H H'->Q b H'
def tDs(K:aa)(f:DS->Option (List D)):TA:=fun σ H Q=>∃B δ ds,InB B H∧RepS K H B σ δ∧f δ=some ds∧∀vs H',Same H H'->Reps K H' B ds vs->Q vs H'
abbrev PD(X:Cx)(e:Expr)(f:DE):Prop:=PE X e (tD X.K f)
abbrev PF(X:Cx)(e:Expr)(f:DS->Option (List D)):Prop:=PE X e (tF X.K f)
abbrev PN(X:Cx)(e:Expr)(f:DE):Prop:=PE X e (tN X.K f)
abbrev PTD(X:Cx)(e:Expr)(f:DS->Option Bool):Prop:=PT X e (tT X.K f)
abbrev PWD(X:Cx)(e:Expr)(f:DS->Option Bool):Prop:=PW X e (tT X.K f)
section
variable{X:Cx}{e a b c:Expr}{es:List Expr}{pos:Pos}
theorem PE.imp{t t':TE}(h:PE X e t)(w:∀σ H Q,t' σ H Q->t σ H Q):PE X e t':=fun pins s σ H Q I q=>h pins s σ H Q I (w σ H Q q)
theorem PT.imp{t t':TT}(h:PT X e t)(w:∀σ H Q,t' σ H Q->t σ H Q):PT X e t':=fun pins s σ H Q I q=>h pins s σ H Q I (w σ H Q q)
theorem PW.imp{t t':TT}(h:PW X e t)(w:∀σ H Q,t' σ H Q->t σ H Q):PW X e t':=fun wh pins s σ H Q I q=>h wh pins s σ H Q I (w σ H Q q)
theorem PA.imp{t t':TA}(h:PA X es t)(w:∀σ H Q,t' σ H Q->t σ H Q):PA X es t':=fun po pins s σ H Q I q=>h po pins s σ H Q I (w σ H Q q)
def mkL(f:DS->Option (List D)):DE:=fun δ=>(f δ).map .lst
def z0B(f:DS->Option (List D)):DE:=fun δ=>(f δ).bind fun ds=>if z2T ds=true then some (.lst ds)else none
theorem iDF{K:aa}{f:DS->Option (List D)}:∀σ H Q,tD K (mkL f) σ H Q->tF K f σ H Q:=fun σ H Q ⟨B,δ,d,hB,S,q,k⟩=>by
 unfold mkL at q
 cases r:f δ with
 |none=>rw[r]at q;cases q
 |some ds=>
  rw[r]at q
  cases q
  exact⟨B,δ,ds,hB,S,r,fun a xs H' s hn ha hr=>k _ H' s (by unfold Rep;exact⟨a,xs,rfl,hB.fresh hn,ha,hr⟩)⟩
theorem iDN{K:aa}{f:DE}:∀σ H Q,tD K f σ H Q->tN K f σ H Q:=fun σ H Q ⟨B,δ,d,hB,S,q,k⟩=>
 ⟨δ,d,S.anti (fun _ z=>z.elim),q,fun v H' A s t nd fr=>k v H' s (t.rep d fun a ha=>hB.fresh (fr a ha))⟩
theorem iNF{K:aa}{f:DS->Option (List D)}:∀σ H Q,tN K (z0B f) σ H Q->tF K f σ H Q:=fun σ H Q ⟨δ,d,S,q,k⟩=>by
 unfold z0B at q
 cases r:f δ with
 |none=>rw[r]at q;cases q
 |some ds=>
  rw[r]at q
  have q':(if z2T ds=true then some (D.lst ds)else none)=some d:=q
  split at q'
  ·rename_i hi
   cases q'
   refine⟨noB,δ,ds,.no,S,r,fun a xs H' s hn ha hr=>k (.ref a) H' [a] s ?_ (aw.mpr ⟨(fun z=>nomatch z),bc⟩) (fun b hb=>by rw[aq.mp hb];exact hn)⟩
   unfold Tree
   exact⟨a,xs,[],rfl,ha,hr.immTree ds hi,rfl⟩
  ·cases q'
theorem z5Y{f:DS->Option (List D)}(h:PF X e f):PD X e (mkL f):=h.imp iDF
theorem z1r{f:DE}(h:PN X e f):PD X e f:=h.imp iDN
theorem z6D{f:DS->Option (List D)}(h:PF X e f):PN X e (z0B f):=h.imp iNF
def z0d(i:Nat):DE:=fun δ=>(δ[i]?).bind id
def dC(d:D):DE:=fun _=>some d
theorem z0f(i:Nat){x:Str}{p:Pos}(h:PE X (.Name x p) (y5k i)):PD X (.Name x p) (z0d i):=h.imp fun σ H Q ⟨B,δ,d,hB,S,q,k⟩=>by
 unfold z0d at q
 cases r:δ[i]? with
 |none=>rw[r]at q;cases q
 |some o=>
  rw[r]at q
  have q':o=some d:=q
  subst q'
  obtain⟨v,e,rv⟩:=S.get i d r
  exact⟨v,e,k v H (.refl H) rv⟩
theorem pd_C{d:D}{v:V}(h:PE X e (tC v))(r:∀K H B,Rep K H B d v):PD X e (dC d):=h.imp fun σ H Q ⟨B,δ,d',hB,S,q,k⟩=>by
 cases q
 exact k v H (.refl H) (r _ _ _)
theorem z0i{i j p}:PD X (.Constant (.int i) j p) (dC (.int i)):=pd_C pe_int fun _ _ _=>rfl
theorem z7A{i j p}:PD X (.Constant (.bool i) j p) (dC (.bl i)):=pd_C pe_bl fun _ _ _=>rfl
theorem z8a{i j p}:PD X (.Constant (.str i) j p) (dC (.str i)):=pd_C pe_str fun _ _ _=>rfl
def d2(F:D->D->Option D)(f g:DE):DE:=fun δ=>(f δ).bind fun x=>(g δ).bind fun y=>F x y
theorem z6M{F:D->D->Option D}{f g:DE}{δ:DS}{d:D}(h:d2 F f g δ=some d):∃x y,f δ=some x∧g δ=some y∧F x y=some d:=by
 unfold d2 at h
 cases hx:f δ with
 |none=>rw[hx]at h;cases h
 |some x=>
  rw[hx]at h
  cases hy:g δ with
  |none=>
   have h':((g δ).bind fun y=>F x y)=some d:=h
   rw[hy]at h';cases h'
  |some y=>
   have h':((g δ).bind fun y=>F x y)=some d:=h
   rw[hy]at h'
   exact⟨x,y,rfl,rfl,h'⟩
def Op2(K:aa)(r:R2)(F:D->D->Option D):Prop:=∀(H:Hp) (B:Addr->Prop) (dx dy d:D) (x y:V) (Q:VK),InB B H->Rep K H B dx x->Rep K H B dy y->F dx dy=some d->(∀v H',Same H H'->Rep K H' B d v->Q v H')->r x y H Q
theorem y4l{r:R2}{F:D->D->Option D}{f g:DE}(ho:Op2 X.K r F)(σ:St)(H:Hp)(Q:VK)(h:tD X.K (d2 F f g) σ H Q):tOp r (tD X.K f) (tD X.K g) σ H Q:=by
 obtain⟨B,δ,d,hB,S,q,k⟩:=h
 obtain⟨dx,dy,e1,e2,e3⟩:=z6M q
 exact⟨B,δ,dx,hB,S,e1,fun v H1 s1 r1=>⟨B,δ,dy,hB.mono s1,S.mono s1,e2,fun u H2 s2 r2=>
  ho H2 B dx dy d v u Q ((hB.mono s1).mono s2) (r1.mono s2) r2 e3 fun z H' s' rz=>k z H' ((s1.trans s2).trans s') rz⟩⟩
theorem y0k{op:Operator}{r:R2}{F:D->D->Option D}{f g:DE}(ho:OpR X (fq op) r)(hD:Op2 X.K r F)(ha:PD X a f)(hb:PD X b g):PD X (.BinOp a op b pos) (d2 F f g):=(y5G ho ha hb).imp (y4l hD)
theorem y0g{op:CmpOp}{r:R2}{F:D->D->Option D}{f g:DE}(ho:OpR X (fb op) r)(hD:Op2 X.K r F)(ha:PD X a f)(hb:PD X b g)(hm:eZ op b=false):PD X (.Compare a [op] [b] pos) (d2 F f g):=(pe_cmpR ho ha hb hm).imp (y4l hD)
def z0Q(f:DE):DS->Option Bool:=fun δ=>match f δ with
 |some (.bl b)=>some b
 |_=>none
theorem y5C{f:DE}{δ:DS}{b:Bool}(h:z0Q f δ=some b):f δ=some (.bl b):=by
 unfold z0Q at h
 split at h
 ·rename_i b' e
  cases h;exact e
 ·cases h
theorem test_of{t:TE}{f:DE}(h:∀σ H Q,tD X.K f σ H Q->t σ H Q)(σ:St)(H:Hp)(Q:Bool->Hp->Prop)(q:tT X.K (z0Q f) σ H Q):tTest t σ H Q:=by
 obtain⟨B,δ,b,hB,S,q,k⟩:=q
 refine h σ H _ ⟨B,δ,.bl b,hB,S,y5C q,fun v H' s r=>?_⟩
 exact⟨b,r,k H' s⟩
theorem z5h{op:CmpOp}{r:R2}{F:D->D->Option D}{f g:DE}(ho:OpR X (fb op) r)(hD:Op2 X.K r F)(ha:PD X a f)(hb:PD X b g)(hm:eZ op b=false):PTD X (.Compare a [op] [b] pos) (z0Q (d2 F f g)):=(pt_cmpR ho ha hb hm).imp (test_of (y4l hD))
def z8k(F G:D->D->Option D)(f g h:DE):DE:=fun δ=>(f δ).bind fun x=>(g δ).bind fun y=>match F x y with
 |some (.bl true)=>(h δ).bind fun z=>G y z
 |some (.bl false)=>some (.bl false)
 |_=>none
theorem x0V{r r':R2}{F G:D->D->Option D}{f g h:DE}(ho:Op2 X.K r F)(ho':Op2 X.K r' G)(σ:St)(H:Hp)(Q:VK)(q:tD X.K (z8k F G f g h) σ H Q):x2E r r' (tD X.K f) (tD X.K g) (tD X.K h) σ H Q:=by
 obtain⟨B,δ,d,hB,S,q,k⟩:=q
 unfold z8k at q
 cases e1:f δ with
 |none=>rw[e1]at q;cases q
 |some x=>
  rw[e1]at q
  cases e2:g δ with
  |none=>
   have q':((g δ).bind _)=some d:=q
   rw[e2]at q';cases q'
  |some y=>
   have q':((g δ).bind _)=some d:=q
   rw[e2]at q'
   have q2:(match F x y with | some (.bl true)=>(h δ).bind fun z=>G y z | some (.bl false)=>some (.bl false) | _=>none)=some d:=q'
   refine⟨B,δ,x,hB,S,e1,fun v H1 s1 r1=>⟨B,δ,y,hB.mono s1,S.mono s1,e2,fun u H2 s2 r2=>?_⟩⟩
   split at q2
   ·rename_i e3
    refine ho H2 B x y _ v u _ ((hB.mono s1).mono s2) (r1.mono s2) r2 e3 fun z H3 s3 r3=>⟨true,r3,?_⟩
    rw[if_pos rfl]
    cases e4:h δ with
    |none=>rw[e4]at q2;cases q2
    |some w=>
     rw[e4]at q2
     have q4:G y w=some d:=q2
     refine⟨B,δ,w,((hB.mono s1).mono s2).mono s3,((S.mono s1).mono s2).mono s3,e4,fun t H4 s4 r4=>?_⟩
     exact ho' H4 B y w d u t Q ((((hB.mono s1).mono s2).mono s3).mono s4) ((r2.mono s3).mono s4) r4 q4 fun z' H' s' rz=>k z' H' ((((s1.trans s2).trans s3).trans s4).trans s') rz
   ·rename_i e3
    cases q2
    refine ho H2 B x y _ v u _ ((hB.mono s1).mono s2) (r1.mono s2) r2 e3 fun z H3 s3 r3=>⟨false,r3,?_⟩
    rw[if_neg ak]
    exact k _ H3 ((s1.trans s2).trans s3) rfl
   ·cases q2
theorem x0C{op op':CmpOp}{r r':R2}{F G:D->D->Option D}{f g h:DE}(ho:OpR X (fb op) r)(ho':OpR X (fb op') r')(hF:Op2 X.K r F)(hG:Op2 X.K r' G)(ha:PD X a f)(hb:PD X b g)(hc:PD X c h)
  (hm:lastMarks [op,op'] [b,c]=false:=by with_unfolding_all rfl):PD X (.Compare a [op,op'] [b,c] pos) (z8k F G f g h):=(x0D ho ho' ha hb hc hm).imp (x0V hF hG)
def iop(F:Int->Int->Option D):D->D->Option D
 |.int i,.int j=>F i j
 |_,_=>none
theorem z8O{F:Int->Int->Option D}{x y d:D}(h:iop F x y=some d):∃i j,x = .int i∧y = .int j∧F i j=some d:=by
 unfold iop at h
 split at h
 ·exact⟨_,_,rfl,rfl,h⟩
 ·cases h
theorem z8l{K:aa}{C:Int->Int->Prop}[∀i j,Decidable (C i j)]{g:Int->Int->Int}:Op2 K (rI C fun i j=>.int (g i j)) (iop fun i j=>if C i j then some (.int (g i j))else none):=by
 intro H B dx dy d x y Q hB hx hy q k
 obtain⟨i,j,rfl,rfl,q2⟩:=z8O q
 by_cases hc:C i j
 ·rw[if_pos hc]at q2
  cases q2
  exact⟨i,j,hx,hy,hc,k _ H (.refl H) rfl⟩
 ·rw[if_neg hc]at q2
  cases q2
theorem y6z{K:aa}{g:Int->Int->Int}:Op2 K (rI0 fun i j=>.int (g i j)) (iop fun i j=>some (.int (g i j))):=by
 intro H B dx dy d x y Q hB hx hy q k
 obtain⟨i,j,rfl,rfl,q2⟩:=z8O q
 cases q2
 exact⟨i,j,hx,hy,k _ H (.refl H) rfl⟩
theorem z3V{K:aa}{g:Int->Int->Bool}:Op2 K (rI0 fun i j=>.bl (g i j)) (iop fun i j=>some (.bl (g i j))):=by
 intro H B dx dy d x y Q hB hx hy q k
 obtain⟨i,j,rfl,rfl,q2⟩:=z8O q
 cases q2
 exact⟨i,j,hx,hy,k _ H (.refl H) rfl⟩
def d1(F:D->Option D)(f:DE):DE:=fun δ=>(f δ).bind F
theorem y6N{F:D->Option D}{f:DE}{δ:DS}{d:D}(h:d1 F f δ=some d):∃x,f δ=some x∧F x=some d:=by
 unfold d1 at h
 cases hx:f δ with
 |none=>rw[hx]at h;cases h
 |some x=>rw[hx]at h;exact⟨x,rfl,h⟩
def x3f:D->Option D
 |.int i=>some (.int (-i))
 |_=>none
theorem y1r{f:DE}(h:PD X a f):PD X (.UnaryOp .USub a pos) (d1 x3f f):=(pe_un un_neg h).imp fun σ H Q ⟨B,δ,d,hB,S,q,k⟩=>by
 obtain⟨x,e1,e2⟩:=y6N q
 refine⟨B,δ,x,hB,S,e1,fun v H' s r=>?_⟩
 unfold x3f at e2
 split at e2
 ·cases e2
  exact⟨_,r,k _ H' s rfl⟩
 ·cases e2
def z7u:D->Option Bool
 |.non=>some false
 |.bl b=>some b
 |.int i=>some (i != 0)
 |.str x=>if x.length≤sizeLine then some ((x.length:Int) != 0)else none
 |.lst ds=>some (!ds.isEmpty)
 |.tup ds=>some (!ds.isEmpty)
 |.scr ns=>some (!ns.isEmpty)
 |.dct ks _=>some (!ks.isEmpty)
 |.exc _=>none
 |.obj _ _ _ _=>none
 |.cel _ _=>none
def z0u(f:DE):DS->Option Bool:=fun δ=>(f δ).bind z7u
theorem y3a{K:aa}{H:Hp}{B:Addr->Prop}{ds:List D}{xs:List V}(h:Reps K H B ds xs):(!ds.isEmpty) = !xs.isEmpty:=by
 have:=h.length
 cases ds <;> cases xs <;> simp_all
theorem y7T{K:aa}{H:Hp}{B:Addr->Prop}{d:D}{v:V}{k:Bool}(h:Rep K H B d v)(e:z7u d=some k):TruV K v H k:=by
 cases d with
 |non=>cases h;cases e;rfl
 |bl b=>cases h;cases e;rfl
 |int i=>cases h;cases e;rfl
 |str x=>
  cases h
  have e':(if x.length≤sizeLine then some ((x.length:Int) != 0)else none)=some k:=e
  by_cases hl:x.length≤sizeLine
  ·rw[if_pos hl]at e'
   cases e'
   exact⟨hl,rfl⟩
  ·rw[if_neg hl]at e'
   cases e'
 |lst ds=>
  unfold Rep at h
  obtain⟨a,xs,rfl,_,s,r⟩:=h
  cases e
  exact .inl ⟨xs,SqL.of s,y3a r⟩
 |tup ds=>
  unfold Rep at h
  obtain⟨a,xs,rfl,s,r⟩:=h
  cases e
  exact .inr (.inl ⟨xs,s,y3a r⟩)
 |scr ns=>
  unfold Rep at h
  obtain⟨a,rfl,s⟩:=h
  cases e
  exact .inl ⟨_,s.sq,by cases ns <;> rfl⟩
 |dct ks ds=>
  unfold Rep at h
  obtain⟨a,kvs,rfl,_,s,q,r⟩:=h
  cases e
  refine .inr (.inr ⟨kvs,s,?_⟩)
  rw[←q]
  cases kvs <;> rfl
 |exc _=>cases e
 |obj _ _ _ _=>cases e
 |cel _ _=>cases e
theorem z0s{f:DE}(h:PD X a f)(he:∀whole,isTrue a X.env whole=(do let v ←whole;standAt a.pos;holding [v] (truthy v)):=by intro _;rfl):PTD X a (z0u f):=(x1c h he).imp fun σ H Q ⟨B,δ,k,hB,S,q,kk⟩=>by
 unfold z0u at q
 cases e:f δ with
 |none=>rw[e]at q;cases q
 |some d=>
  rw[e]at q
  exact⟨B,δ,d,hB,S,e,fun v H' s r=>⟨k,y7T r q,kk H' s⟩⟩
def z6u(f g:DS->Option Bool):DS->Option Bool:=fun δ=>(f δ).bind fun c=>if c=true then g δ else some false
def dOrT(f g:DS->Option Bool):DS->Option Bool:=fun δ=>(f δ).bind fun c=>if c=true then some true else g δ
def z4h(f:DS->Option Bool):DS->Option Bool:=fun δ=>(f δ).map (!·)
theorem z9n{f:DS->Option Bool}(h:PTD X a f):PWD X (.BoolOp .And [a] pos) f:=pw_and1 h
theorem y6W{f:DS->Option Bool}(h:PTD X a f):PWD X (.BoolOp .Or [a] pos) f:=pw_or1 h
theorem z8P{rest:List Expr}{f g:DS->Option Bool}(ha:PTD X a f)(hb:PWD X (.BoolOp .And (b::rest) pos) g):PWD X (.BoolOp .And (a::b::rest) pos) (z6u f g):=(pw_and ha hb).imp fun σ H Q ⟨B,δ,k,hB,S,q,kk⟩=>by
 unfold z6u at q
 cases e:f δ with
 |none=>rw[e]at q;cases q
 |some c=>
  rw[e]at q
  refine⟨B,δ,c,hB,S,e,fun H1 s1=>?_⟩
  have q':(if c=true then g δ else some false)=some k:=q
  cases c with
  |true=>
   rw[if_pos rfl]at q'
   refine iteT ?_
   exact⟨B,δ,k,hB.mono s1,S.mono s1,q',fun H2 s2=>kk H2 (s1.trans s2)⟩
  |false=>
   rw[if_neg ak]at q'
   refine iteF ?_
   cases q'
   exact kk H1 s1
theorem x2C{rest:List Expr}{f g:DS->Option Bool}(ha:PTD X a f)(hb:PWD X (.BoolOp .Or (b::rest) pos) g):PWD X (.BoolOp .Or (a::b::rest) pos) (dOrT f g):=(pw_or ha hb).imp fun σ H Q ⟨B,δ,k,hB,S,q,kk⟩=>by
 unfold dOrT at q
 cases e:f δ with
 |none=>rw[e]at q;cases q
 |some c=>
  rw[e]at q
  refine⟨B,δ,c,hB,S,e,fun H1 s1=>?_⟩
  have q':(if c=true then some true else g δ)=some k:=q
  cases c with
  |true=>
   rw[if_pos rfl]at q'
   refine iteT ?_
   cases q'
   exact kk H1 s1
  |false=>
   rw[if_neg ak]at q'
   refine iteF ?_
   exact⟨B,δ,k,hB.mono s1,S.mono s1,q',fun H2 s2=>kk H2 (s1.trans s2)⟩
theorem z4t{f:DS->Option Bool}(h:PTD X a f):PTD X (.UnaryOp .Not a pos) (z4h f):=(pt_not h).imp fun σ H Q ⟨B,δ,k,hB,S,q,kk⟩=>by
 unfold z4h at q
 cases e:f δ with
 |none=>rw[e]at q;cases q
 |some c=>
  rw[e]at q
  cases q
  exact⟨B,δ,c,hB,S,e,kk⟩
def x0g(f g:DE):DE:=fun δ=>match f δ with
 |some (.bl true)=>g δ
 |some (.bl false)=>some (.bl false)
 |_=>none
def uNot:D->Option D
 |.bl b=>some (.bl (!b))
 |_=>none
theorem y3h{op}{f:DE}(h:PD X a f):PD X (.BoolOp op [a] pos) f:=pe_one h
theorem y0I{rest:List Expr}{f g:DE}(ha:PD X a f)(hb:PD X (.BoolOp .And (b::rest) pos) g):PD X (.BoolOp .And (a::b::rest) pos) (x0g f g):=(pe_and ha hb).imp fun σ H Q ⟨B,δ,d,hB,S,q,k⟩=>by
 unfold x0g at q
 split at q
 ·rename_i e
  refine⟨B,δ,.bl true,hB,S,e,fun v H1 s1 r=>⟨true,r,?_⟩⟩
  rw[if_pos rfl]
  exact⟨B,δ,d,hB.mono s1,S.mono s1,q,fun v2 H2 s2 r2=>k v2 H2 (s1.trans s2) r2⟩
 ·rename_i e
  cases q
  refine⟨B,δ,.bl false,hB,S,e,fun v H1 s1 r=>⟨false,r,?_⟩⟩
  rw[if_neg ak]
  exact k _ H1 s1 rfl
 ·cases q
theorem pd_not{f:DE}(h:PD X a f):PD X (.UnaryOp .Not a pos) (d1 uNot f):=(pe_not h).imp fun σ H Q ⟨B,δ,d,hB,S,q,k⟩=>by
 obtain⟨x,e1,e2⟩:=y6N q
 refine⟨B,δ,x,hB,S,e1,fun v H' s r=>?_⟩
 unfold uNot at e2
 split at e2
 ·cases e2
  exact⟨_,r,k _ H' s rfl⟩
 ·cases e2
def dIf(c:DS->Option Bool)(f g:DE):DE:=fun δ=>(c δ).bind fun k=>if k=true then f δ else g δ
theorem pd_if{t:DS->Option Bool}{f g:DE}(hc:PTD X c t)(ha:PD X a f)(hb:PD X b g):PD X (.IfExp c a b pos) (dIf t f g):=(x0Q hc ha hb).imp fun σ H Q ⟨B,δ,d,hB,S,q,k⟩=>by
 unfold dIf at q
 cases e:t δ with
 |none=>rw[e]at q;cases q
 |some c=>
  rw[e]at q
  refine⟨B,δ,c,hB,S,e,fun H1 s1=>?_⟩
  have q':(if c=true then f δ else g δ)=some d:=q
  cases c with
  |true=>
   rw[if_pos rfl]at q'
   refine iteT ?_
   exact⟨B,δ,d,hB.mono s1,S.mono s1,q',fun v2 H2 s2 r2=>k v2 H2 (s1.trans s2) r2⟩
  |false=>
   rw[if_neg ak]at q'
   refine iteF ?_
   exact⟨B,δ,d,hB.mono s1,S.mono s1,q',fun v2 H2 s2 r2=>k v2 H2 (s1.trans s2) r2⟩
def z0m:List DE->DS->Option (List D)
 |[],_=>some []
 |f::r,δ=>(f δ).bind fun x=>(z0m r δ).bind fun xs=>some (x::xs)
theorem z5n{f:DE}{r:List DE}{δ:DS}{ds:List D}(h:z0m (f::r) δ=some ds):∃x xs,f δ=some x∧z0m r δ=some xs∧ds=x::xs:=by
 unfold z0m at h
 cases hx:f δ with
 |none=>rw[hx]at h;cases h
 |some x=>
  rw[hx]at h
  have h':((z0m r δ).bind fun xs=>some (x::xs))=some ds:=h
  cases hy:z0m r δ with
  |none=>rw[hy]at h';cases h'
  |some xs=>
   rw[hy]at h'
   cases h'
   exact⟨x,xs,rfl,rfl,rfl⟩
theorem z2l:∀{fl:List DE} {δ:DS} {ds:List D},z0m fl δ=some ds->ds.length=fl.length
 |[],_,_,h=>by cases h;rfl
 |f::r,δ,ds,h=>by
  obtain⟨x,xs,_,e,rfl⟩:=z5n h
  simp[z2l e]
abbrev PAD(X:Cx)(es:List Expr)(fl:List DE):Prop:=PA X es (tDs X.K (z0m fl))
theorem z0b:PAD X [] []:=pa_nil.imp fun σ H Q ⟨B,δ,ds,hB,S,q,k⟩=>by
 cases q
 exact k [] H (.refl H) .nil
theorem z0a{f:DE}{fl:List DE}(ha:PD X e f)(hr:PAD X es fl)(hs:starEach (e::es) X.env=(false,eval e X.env)::starEach es X.env:=by rfl):PAD X (e::es) (f::fl):=(z0S ha hr hs).imp fun σ H Q ⟨B,δ,ds,hB,S,q,k⟩=>by
 obtain⟨x,xs,e1,e2,rfl⟩:=z5n q
 exact⟨B,δ,x,hB,S,e1,fun v H1 s1 r1=>⟨B,δ,xs,hB.mono s1,S.mono s1,e2,fun vs H2 s2 r2=>k (v::vs) H2 (s1.trans s2) (.cons (r1.mono s2) r2)⟩⟩
theorem z1w{fl:List DE}(h:PAD X es fl)(hl:fl.length≤1000:=by decide):PF X (.List es pos) (z0m fl):=(y3D h).imp fun σ H Q ⟨B,δ,ds,hB,S,q,k⟩=>by
 refine⟨B,δ,ds,hB,S,q,fun vs H1 s1 r1=>⟨?_,fun p hp=>?_⟩⟩
 ·rw[←r1.length,z2l q]
  exact cG (z7k hl)
 ·exact k p vs _ (s1.trans (z0n hp)) (s1.free hp) z0o (r1.mono (z0n hp))
def mkT(f:DS->Option (List D)):DE:=fun δ=>(f δ).map .tup
theorem z5K{x1}{fl:List DE}(h:PAD X es fl)(hl:fl.length≤1000:=by decide):PD X (.Tuple es x1 pos) (mkT (z0m fl)):=(x2k h).imp fun σ H Q ⟨B,δ,d,hB,S,q,k⟩=>by
 unfold mkT at q
 cases r:z0m fl δ with
 |none=>rw[r]at q;cases q
 |some ds=>
  rw[r]at q
  cases q
  refine⟨B,δ,ds,hB,S,r,fun vs H1 s1 r1=>⟨?_,fun p hp=>?_⟩⟩
  ·rw[←r1.length,z2l r]
   exact cG (z7k hl)
  ·refine k _ _ (s1.trans (z0n hp)) ?_
   unfold Rep
   exact⟨p,vs,rfl,SqT.of z0o,r1.mono (z0n hp)⟩
def ixD:D->D->Option D
 |.lst ds,.int i=>atI ds i
 |.tup ds,.int i=>atI ds i
 |.scr ns,.int i=>(atI ns i).map .int
 |_,_=>none
theorem atI_map{α β:Type}(f:α->β)(xs:List α)(i:Int):atI (xs.map f) i=(atI xs i).map f:=by
 unfold atI
 rw[ah]
 cases ixN xs.length i with
 |none=>rfl
 |some j=>simp
theorem y4D{K:aa}{H:Hp}{B:Addr->Prop}{ds:List D}{xs:List V}{i:Int}{d:D}(h:Reps K H B ds xs)(e:atI ds i=some d):∃x,atI xs i=some x∧Rep K H B d x:=by
 unfold atI at e ⊢
 rw[←h.length]
 cases q:ixN ds.length i with
 |none=>rw[q]at e;cases e
 |some j=>
  rw[q]at e
  exact h.get e
theorem o2_ix{K:aa}:Op2 K (rIx K) ixD:=by
 intro H B dx dy d x y Q hB hx hy q k
 unfold ixD at q
 split at q
 ·unfold Rep at hx
  obtain⟨a,xs,rfl,_,s,r⟩:=hx
  obtain⟨v,e,rv⟩:=y4D r q
  exact .inl ⟨a,xs,_,v,rfl,hy,SqL.of s,e,k v H (.refl H) rv⟩
 ·unfold Rep at hx
  obtain⟨a,xs,rfl,s,r⟩:=hx
  obtain⟨v,e,rv⟩:=y4D r q
  exact .inr (.inl ⟨a,xs,_,v,rfl,hy,s,e,k v H (.refl H) rv⟩)
 ·rename_i ns i
  unfold Rep at hx
  obtain⟨a,rfl,s⟩:=hx
  cases e:atI ns i with
  |none=>rw[e]at q;cases q
  |some n=>
   rw[e]at q
   cases q
   exact .inl ⟨a,_,_,.int n,rfl,hy,s.sq,by rw[atI_map,e];rfl,k _ H (.refl H) rfl⟩
 ·cases q
theorem z0G{f g:DE}(ha:PD X a f)(hb:PD X b g)(hs:y1U b:=by intro _ _;rfl):PD X (.Subscript a b pos) (d2 ixD f g):=(pe_ix x2M ha hb hs).imp (y4l o2_ix)
def spR(K:aa)(F:List D->Option D):Sp:=fun vs H Q _=>∃B ds d,InB B H∧Reps K H B ds vs∧F ds=some d∧∀v H',Same H H'->Rep K H' B d v->Q v H'
def spN(K:aa)(F:List D->Option D):Sp:=fun vs H Q _=>∃ds d,Reps K H noB ds vs∧F ds=some d∧∀v H' A,Same H H'->Tree K H' d v A->A.Nodup->(∀a∈A,H a=none)->Q v H'
structure DefOk(P:dw)(w:eX)(K:aa)(mg:Str->Option Value)(base:Heap)(k:Nat)(x:Str)(sp:Sp):Prop where
 ok:∃(f:Addr) (fd:eY) (ps:List Str),mg x=some (.ref f)∧bE K (.ref f)=true∧Binds K fd ps []∧FnOk P w K mg base CX0 k f fd ps sp
def z0k(F:List D->Option D)(fl:List DE):DE:=fun δ=>(z0m fl δ).bind F
theorem z5l{F:List D->Option D}{fl:List DE}{δ:DS}{d:D}(h:z0k F fl δ=some d):∃ds,z0m fl δ=some ds∧F ds=some d:=by
 unfold z0k at h
 cases q:z0m fl δ with
 |none=>rw[q]at h;cases h
 |some ds=>rw[q]at h;exact⟨ds,rfl,h⟩
end
section
variable{X:Cx}{e a b c:Expr}{es:List Expr}{pos p:Pos}{x:Str}{k:Nat}{tg iter elt:Expr}
theorem z9b{sp:Sp}{t:TA}(G:DefOk X.prog X.w X.K X.mg X.base k x sp)(hr:Room k X.A)(hg:Gl X x)(ha:PA X (e::es) t)(hdb:(x==("__debug__" : Str))=false:=by decide)
  (he:starEach (e::es) X.env=(false,eval e X.env)::starEach es X.env:=by rfl) (hpl:(e9 pos (starEach es X.env)).any (·.1)=false:=by rfl):PE X (.Call (.Name x p) (e::es) [] pos) (tCall sp [] E0 t):=by
 obtain⟨f,fd,ps,hm,hk,hb,ok⟩:=G.ok
 exact pe_call ok hr hg hm hk hb .nil pass0 ha hdb he hpl
theorem y3g{F:List D->Option D}{fl:List DE}(G:DefOk X.prog X.w X.K X.mg X.base k x (spR X.K F))(hr:Room k X.A)(hg:Gl X x)(ha:PAD X (e::es) fl)(hdb:(x==("__debug__" : Str))=false:=by decide)
  (he:starEach (e::es) X.env=(false,eval e X.env)::starEach es X.env:=by rfl) (hpl:(e9 pos (starEach es X.env)).any (·.1)=false:=by rfl):PD X (.Call (.Name x p) (e::es) [] pos) (z0k F fl):=
 (z9b G hr hg ha hdb he hpl).imp fun σ H Q ⟨B,δ,d,hB,S,q,k⟩=>by
  obtain⟨ds,e1,e2⟩:=z5l q
  refine⟨B,δ,ds,hB,S,e1,fun vs H1 s1 r1=>?_⟩
  show spR X.K F (vs++[]) H1 Q E0
  rw[aL]
  exact⟨B,ds,d,hB.mono s1,r1,e2,fun v H' s' r=>k v H' (s1.trans s') r⟩
theorem z0g{F:List D->Option D}{fl:List DE}(G:DefOk X.prog X.w X.K X.mg X.base k x (spN X.K F))(hr:Room k X.A)(hg:Gl X x)(ha:PAD X (e::es) fl)(hdb:(x==("__debug__" : Str))=false:=by decide)
  (he:starEach (e::es) X.env=(false,eval e X.env)::starEach es X.env:=by rfl) (hpl:(e9 pos (starEach es X.env)).any (·.1)=false:=by rfl):PN X (.Call (.Name x p) (e::es) [] pos) (z0k F fl):=
 (z9b G hr hg ha hdb he hpl).imp fun σ H Q ⟨δ,d,S,q,k⟩=>by
  obtain⟨ds,e1,e2⟩:=z5l q
  refine⟨noB,δ,ds,.no,S,e1,fun vs H1 s1 r1=>?_⟩
  show spN X.K F (vs++[]) H1 Q E0
  rw[aL]
  exact⟨ds,d,r1,e2,fun v H' A s' t nd fr=>k v H' A (s1.trans s') t nd fun a ha=>s1.free (fr a ha)⟩
structure ItD(K:aa)(J:It)(H:Hp)(B:Addr->Prop)(ds:List D):Prop where
 go:∀i H',Keep K B H H'->i<ds.length->J.go i H'
 stop:∀i H',Keep K B H H'->ds.length≤i->J.stop i H'
 yld:∀i H' x H2,Keep K B H H'->J.yld i H' x H2->Same H' H2∧∃d,(i<ds.length->ds[i]? = some d)∧Rep K H2 B d x
def ItW(K:aa)(J:It)(H:Hp)(B:Addr->Prop)(ds:List D):Prop:=∀C:Addr->Prop,(∀a,C a->H a=none)->ItD K J H (fun a=>B a∨C a) ds
def tI(K:aa)(f:DS->Option (List D)):TI:=fun σ H R=>∃B δ ds,InB B H∧RepS K H B σ δ∧f δ=some ds∧∀J H',Same H H'->ItW K J H' B ds->R J H'
abbrev PID(X:Cx)(tg iter:Expr)(f:DS->Option (List D)):Prop:=PI X tg iter (tI X.K f)
theorem PI.imp{wi wi':TI}(h:PI X tg iter wi)(w:∀σ H R,wi' σ H R->wi σ H R):PI X tg iter wi':=fun pins s σ H R I q=>h pins s σ H R I (w σ H R q)
def iSeq(K:aa)(tl:TE):TI:=fun σ H R=>tl σ H fun x H1=>∃a,x = .ref a∧(((∃xs,SqL K H1 a xs)∧R (Itl K a) H1)∨((∃xs,SqT K H1 a xs)∧R (Itt K a) H1))
theorem pi_seq{l:Expr}{tl:TE}(hl:PE X l tl):PI X tg l (iSeq X.K tl):=by
 intro pins s σ H R I h
 refine thn (hl pins s σ H _ I h) fun v s1 ⟨x,H1,I1,r1,q1⟩=>?_
 obtain⟨a,e,q1⟩:=q1
 subst e
 cases r1
 have fp:∀b∈[s1.heap.objs.size],y0O X pins H1 b:=fun b hb=>by
  have e:b=s1.heap.objs.size:=by simpa using hb
  subst e
  exact I1.fpOk (aj _) (I1.hok.fresh (aj _))
 rcases q1 with⟨⟨xs,hq⟩,q⟩ | ⟨⟨xs,hq⟩,q⟩
 ·obtain⟨its,rv,p,hz⟩:=I1.list hq
  refine wpAny_pyIter_list p.isList ?_
  exact⟨s1.heap.objs.size,[s1.heap.objs.size],_,_,H1,rfl,I1.kept (t':=s1.toks) fun b o e=>Heap.get?_push_of_some _ e,y7f a _,⟨_,Heap.get?_push_size _ rfl,rfl,rfl⟩,fp,q⟩
 ·obtain⟨its,rv,p,hz⟩:=I1.tuple hq
  refine wpAny_pyIter_tuple (show s1.heap.IsTuple a its.toArray from p) ?_
  exact⟨s1.heap.objs.size,[s1.heap.objs.size],_,_,H1,rfl,I1.kept (t':=s1.toks) fun b o e=>Heap.get?_push_of_some _ e,y5v a _,⟨_,Heap.get?_push_size _ rfl,rfl,rfl⟩,fp,q⟩
def y5L:D->Option (List D)
 |.lst ds=>some ds
 |.tup ds=>some ds
 |.scr ns=>some (ns.map .int)
 |_=>none
def z5W(f:DE):DS->Option (List D):=fun δ=>(f δ).bind y5L
theorem x0K{K:aa}{H:Hp}{B:Addr->Prop}{a:Addr}{xs:List V}{ds:List D}(n:¬ B a)(h:H a=some (.lst xs))(r:Reps K H B ds xs):ItD K (Itl K a) H B ds:=by
 have hl:=r.length
 refine⟨fun i H' kp hi=>?_,fun i H' kp hi=>?_,fun i H' x H2 kp y=>?_⟩
 ·exact⟨xs,xs[i],SqL.of (kp.sl a xs n h),by rw[ac]⟩
 ·exact⟨xs,SqL.of (kp.sl a xs n h),by omega⟩
 ·obtain⟨e,y⟩:=y
  subst e
  have hx:=y xs (SqL.of (kp.sl a xs n h))
  obtain⟨d,e,rd⟩:=(Reps.keep kp ds r).get' hx
  exact⟨.refl _,d,fun _=>e,rd⟩
theorem itd_tup{K:aa}{H:Hp}{B:Addr->Prop}{a:Addr}{xs:List V}{ds:List D}(h:SqT K H a xs)(r:Reps K H B ds xs):ItD K (Itt K a) H B ds:=by
 have hl:=r.length
 refine⟨fun i H' kp hi=>?_,fun i H' kp hi=>?_,fun i H' x H2 kp y=>?_⟩
 ·exact⟨xs,xs[i],kp.st a xs h,by rw[ac]⟩
 ·exact⟨xs,kp.st a xs h,by omega⟩
 ·obtain⟨e,y⟩:=y
  subst e
  have hx:=y xs (kp.st a xs h)
  obtain⟨d,e,rd⟩:=(Reps.keep kp ds r).get' hx
  exact⟨.refl _,d,fun _=>e,rd⟩
theorem z3N{K:aa}{H:Hp}{B:Addr->Prop}:∀ns:List Int,Reps K H B (ns.map D.int) (ns.map V.int)
 |[]=>.nil
 |n::ns=>.cons rfl (z3N ns)
theorem itd_scr{K:aa}{H:Hp}{B:Addr->Prop}{a:Addr}{ns:List Int}(h:SqF K H a (ns.map V.int)):ItD K (Itl K a) H B (ns.map D.int):=by
 have r:∀H',Reps K H' B (ns.map D.int) (ns.map V.int):=fun _=>z3N ns
 refine⟨fun i H' kp hi=>?_,fun i H' kp hi=>?_,fun i H' x H2 kp y=>?_⟩
 ·exact⟨ns.map V.int,(ns.map V.int)[i]'(by simpa using hi),(kp.sf a _ h).sq,by rw[ac]⟩
 ·exact⟨ns.map V.int,(kp.sf a _ h).sq,by simpa using hi⟩
 ·obtain⟨e,y⟩:=y
  subst e
  have hx:=y _ (kp.sf a _ h).sq
  obtain⟨d,e,rd⟩:=(r _).get' hx
  exact⟨.refl _,d,fun _=>e,rd⟩
theorem z0I{l:Expr}{f:DE}(h:PD X l f):PID X tg l (z5W f):=(pi_seq h).imp fun σ H R ⟨B,δ,ds,hB,S,q,k⟩=>by
 unfold z5W at q
 cases e:f δ with
 |none=>rw[e]at q;cases q
 |some d=>
  rw[e]at q
  have q':y5L d=some ds:=q
  refine⟨B,δ,d,hB,S,e,fun v H1 s1 r1=>?_⟩
  unfold y5L at q'
  split at q'
  ·cases q'
   unfold Rep at r1
   obtain⟨a,xs,rfl,n,h,r⟩:=r1
   exact⟨a,rfl,.inl ⟨⟨xs,SqL.of h⟩,k _ H1 s1 fun C hC=>x0K (fun z=>z.elim n fun z=>by rw[hC a z]at h;cases h) h (Reps.wide hC _ r)⟩⟩
  ·cases q'
   unfold Rep at r1
   obtain⟨a,xs,rfl,h,r⟩:=r1
   exact⟨a,rfl,.inr ⟨⟨xs,h⟩,k _ H1 s1 fun C hC=>itd_tup h (Reps.wide hC _ r)⟩⟩
  ·cases q'
   unfold Rep at r1
   obtain⟨a,rfl,h⟩:=r1
   exact⟨a,rfl,.inl ⟨⟨_,h.sq⟩,k _ H1 s1 fun C hC=>itd_scr h⟩⟩
  ·cases q'
def z2h(lo:Int)(n:Nat):List D:=(ad n).map fun i=>.int (lo+(i:Nat))
theorem x0W{lo:Int}{n i:Nat}(h:i<n):(z2h lo n)[i]? = some (.int (lo+i)):=by
 unfold z2h
 rw[aB,cC h]
 rfl
theorem z4w(lo:Int)(n:Nat):(z2h lo n).length=n:=by unfold z2h;rw[ah,aS]
theorem y9n{K:aa}{H:Hp}{B:Addr->Prop}{lo:Int}{n:Nat}:ItD K (Itr lo n) H B (z2h lo n):=by
 refine⟨fun i H' _ hi=>?_,fun i H' _ hi=>?_,fun i H' x H2 _ y=>?_⟩
 ·rw[z4w]at hi;exact hi
 ·rw[z4w]at hi;exact hi
 ·obtain⟨e,y⟩:=y
  subst e y
  exact⟨.refl _,.int (lo+i),fun h=>x0W (by rwa [z4w]at h),rfl⟩
def z1L(f:DE):DS->Option (List D):=fun δ=>match f δ with
 |some (.int j)=>if -(2 ^ 62)≤j∧j<2 ^ 62 then some (z2h 0 j.toNat)else none
 |_=>none
def x0T(f g:DE):DS->Option (List D):=fun δ=>match f δ,g δ with
 |some (.int i),some (.int j)=>if -(2 ^ 62)≤i∧i<2 ^ 62∧-(2 ^ 62)≤j∧j<2 ^ 62 then some (z2h i (j - i).toNat)else none
 |_,_=>none
theorem z1m{f:DE}(hg:Gl X "range")(hm:X.mg "range" = none)(ha:PD X a f)(hs:starEach [a] X.env=[(false,eval a X.env)]:=by rfl):PID X tg (.Call (.Name "range" p) [a] [] pos) (z1L f):=
 (y9M hg hm (z0a ha z0b hs) hs).imp fun σ H R ⟨B,δ,ds,hB,S,q,k⟩=>by
  unfold z1L at q
  split at q
  ·rename_i j e
   split at q
   ·rename_i hj
    cases q
    have ea:z0m [f] δ=some [.int j]:=by unfold z0m;rw[e];rfl
    refine⟨B,δ,[.int j],hB,S,ea,fun vs H1 s1 r1=>?_⟩
    unfold Reps at r1
    obtain⟨x,r,rfl,rx,rr⟩:=r1
    unfold Reps at rr
    subst rr
    exact⟨j,by rw[show x=V.int j from rx],hj.1,hj.2,k _ H1 s1 fun C _=>y9n⟩
   ·cases q
  ·cases q
theorem pi_rng2{f g:DE}(hg:Gl X "range")(hm:X.mg "range" = none)(ha:PD X a f)(hb:PD X b g)(hs:starEach [a,b] X.env=[(false,eval a X.env),(false,eval b X.env)]:=by rfl)(hs2:starEach [b] X.env=[(false,eval b X.env)]:=by rfl):
  PID X tg (.Call (.Name "range" p) [a,b] [] pos) (x0T f g):=
 (y8X hg hm (z0a ha (z0a hb z0b hs2) (by rw[hs,hs2])) hs hs2).imp fun σ H R ⟨B,δ,ds,hB,S,q,k⟩=>by
  unfold x0T at q
  split at q
  ·rename_i i j e e'
   split at q
   ·rename_i hj
    cases q
    have ea:z0m [f,g] δ=some [.int i,.int j]:=by unfold z0m z0m;rw[e,e'];rfl
    refine⟨B,δ,[.int i,.int j],hB,S,ea,fun vs H1 s1 r1=>?_⟩
    unfold Reps at r1
    obtain⟨x,r,rfl,rx,rr⟩:=r1
    unfold Reps at rr
    obtain⟨y,r',rfl,ry,rr⟩:=rr
    unfold Reps at rr
    subst rr
    exact⟨i,j,by rw[show x=V.int i from rx,show y=V.int j from ry],hj,k _ H1 s1 fun C _=>y9n⟩
   ·cases q
  ·cases q
def x0q:Option D->List D->List D
 |some y,ys=>y::ys
 |none,ys=>ys
def z0Z(h:D->Option (Option D)):List D->Option (List D)
 |[]=>some []
 |x::r=>(h x).bind fun o=>(z0Z h r).bind fun ys=>some (x0q o ys)
theorem z5H{h:D->Option (Option D)}{x:D}{r ds:List D}(e:z0Z h (x::r)=some ds):∃o ys,h x=some o∧z0Z h r=some ys∧ds=x0q o ys:=by
 unfold z0Z at e
 cases q:h x with
 |none=>rw[q]at e;cases e
 |some o=>
  rw[q]at e
  have e':((z0Z h r).bind fun ys=>some (x0q o ys))=some ds:=e
  cases q':z0Z h r with
  |none=>rw[q']at e';cases e'
  |some ys=>
   rw[q']at e'
   exact⟨o,ys,rfl,rfl,(Option.some.inj e').symm⟩
def z0X(fi:DS->Option (List D))(fc:DS->Option Bool)(fe:DE):DS->Option (List D):=fun δ=>(fi δ).bind fun xs=>if xs.length≤sizeLine then
 z0Z (fun x=>(fc (δ++[some x])).bind fun k=>if k=true then(fe (δ++[some x])).map some else some none) xs else none
def z4C:DS->Option Bool:=fun _=>some true
theorem z0C{X:Cx}:x0h X [] (tT X.K z4C):=fun pins s σ H Q I ⟨B,δ,b,hB,S,q,k⟩=>x1G pins s σ H Q I (by cases q;exact k H (.refl H))
theorem z0N{X:Cx}{c:Expr}{f:DS->Option Bool}(h:PTD X c f):x0h X [c] (tT X.K f):=x1r h
theorem RepS.snoc{K:aa}{H:Hp}{B:Addr->Prop}{σ:St}{δ:DS}{d:D}{v:V}(S:RepS K H B σ δ)(r:Rep K H B d v):RepS K H B (σ++[some v]) (δ++[some d]):=by
 refine⟨by simp[S.len],fun i d' e=>?_⟩
 by_cases hi:i<δ.length
 ·rw[aY hi]at e
  obtain⟨w,e',r'⟩:=S.get i d' e
  exact⟨w,by rw[aY (by rw[←S.len];exact hi)];exact e',r'⟩
 ·by_cases hj:i=δ.length
  ·subst hj
   rw[bp (aj _),Nat.sub_self]at e
   cases e
   refine⟨v,?_,r⟩
   rw[S.len,bp (aj _),Nat.sub_self]
   rfl
  ·rw[eD (by simp;omega)]at e
   cases e
theorem RepS.wide{K:aa}{H:Hp}{B C:Addr->Prop}{σ:St}{δ:DS}(h:RepS K H B σ δ)(hc:∀a,C a->H a=none):RepS K H (fun a=>B a∨C a) σ δ:=
 ⟨h.len,fun i d q=>let⟨v,a,r⟩:=h.get i d q;⟨v,a,Rep.wide hc d r⟩⟩
theorem z9I{w v:Option V}:∀{σ:St},(σ++[w]).set σ.length v=σ++[v]
 |[]=>rfl
 |x::r=>congrArg (x :: ·) (z9I (σ:=r))
variable{N':List Str}{sc:fu}{ifs:List Expr}{n:Nat}{px:Pos}{fi:DS->Option (List D)}{fc:DS->Option Bool}{fe:DE}
theorem y4x{σ:St}{H:Hp}{Q:VK}(hσ:σ.length=n)(hq:tF X.K (z0X fi fc fe) σ H Q):y9c (tI X.K fi) (z3f n) (tT X.K fc) (tD X.K fe) 1 σ H Q:=by
 obtain⟨B,δ,ds,hB,Sδ,q,k⟩:=hq
 unfold z0X at q
 cases e1:fi δ with
 |none=>rw[e1]at q;cases q
 |some xs=>
 rw[e1]at q
 have q1:(if xs.length≤sizeLine then z0Z (fun x=>(fc (δ++[some x])).bind fun k=>if k=true then(fe (δ++[some x])).map some else some none) xs else none)=some ds:=q
 split at q1
 case isFalse=>cases q1
 case isTrue hsz=>
 refine⟨B,δ,xs,hB,Sδ,e1,fun J H1 s1 itw=>fun Da hD=>?_⟩
 have hD0:H Da=none:=s1.free hD
 have it:=itw (fun a=>a=Da) fun a ha=>by rw[ha];exact hD
 have Sw:RepS X.K H1 (fun a=>B a∨a=Da) σ δ:=(Sδ.mono s1).wide fun a ha=>by rw[ha];exact hD
 refine⟨fun i m σ' H'=>m=xs.length - i∧i≤xs.length∧(∃w,σ'=σ++[w])∧Same H1 H'∧∃ys dn rs,H' Da=some (.lst ys)∧Reps X.K H' (fun a=>B a∨a=Da) dn ys∧ds=dn++rs∧dn.length≤i ∧
  z0Z (fun x=>(fc (δ++[some x])).bind fun k=>if k=true then(fe (δ++[some x])).map some else some none) (xs.drop i)=some rs,
  ⟨xs.length,by simp,bJ _,⟨none,rfl⟩,z0n hD,[],[],ds,z0o,.nil,rfl,aj _,q1⟩,?_⟩
 rintro i m σ' H' ⟨rfl,hi',⟨w,rfl⟩,sm,ys,dn,rs,hys,rys,hds,hln,hrs⟩
 have kp:Keep X.K (fun a=>B a∨a=Da) H1 H':=.same sm
 by_cases hlt:i<xs.length
 ·refine .inr ⟨it.go i H' kp hlt,fun σ'' H''=>(i+1≤xs.length∧(∃w,σ''=σ++[w])∧Same H1 H''∧∃ys dn rs,H'' Da=some (.lst ys)∧Reps X.K H'' (fun a=>B a∨a=Da) dn ys∧ds=dn++rs∧dn.length≤i+1 ∧
   z0Z (fun x=>(fc (δ++[some x])).bind fun k=>if k=true then(fe (δ++[some x])).map some else some none) (xs.drop (i+1))=some rs),fun σ'' H'' h=>⟨xs.length - (i+1),by omega,rfl,h⟩,fun xv H2 hy=>?_⟩
  obtain⟨s2,d,hd,rd⟩:=it.yld i H' xv H2 kp hy
  have hdi:=hd hlt
  have hx:xs.drop i=d::xs.drop (i+1):=by
   obtain⟨hl,e⟩:=aP.mp hdi
   rw[aM hl,e]
  rw[hx]at hrs
  obtain⟨o,rs',e2,e3,e4⟩:=z5H hrs
  show tT X.K fc ((σ++[w]).set n (some xv)) H2 _
  rw[←hσ,z9I]
  have hB1:InB (fun a=>B a∨a=Da) H2:=fun a ha=>ha.elim (fun z=>(((hB.mono s1).mono sm).mono s2) a z) fun z=>⟨_,s2 _ _ (z ▸ hys)⟩
  have S2:RepS X.K H2 (fun a=>B a∨a=Da) (σ++[some xv]) (δ++[some d]):=((Sw.mono sm).mono s2).snoc rd
  have hl2:ys.length<sizeLine:=by
   have:=rys.length
   omega
  cases ec:fc (δ++[some d])with
  |none=>rw[ec]at e2;cases e2
  |some kk=>
   rw[ec]at e2
   have e2':(if kk=true then(fe (δ++[some d])).map some else some none)=some o:=e2
   refine⟨_,δ++[some d],kk,hB1,S2,ec,fun H3 s3=>?_⟩
   cases kk with
   |false=>
    rw[if_neg ak]at e2'
    rw[if_neg ak]
    cases e2'
    exact⟨hlt,⟨_,rfl⟩,(sm.trans s2).trans s3,ys,dn,rs',s3 _ _ (s2 _ _ hys),(rys.mono s2).mono s3,by rw[hds,e4];rfl,di hln,e3⟩
   |true=>
    rw[if_pos rfl]at e2'
    rw[if_pos rfl]
    cases ey:fe (δ++[some d])with
    |none=>rw[ey]at e2';cases e2'
    |some y=>
     rw[ey]at e2'
     cases e2'
     refine⟨_,δ++[some d],y,hB1.mono s3,S2.mono s3,ey,fun yv H5 s5 r5=>⟨ys,s5 _ _ (s3 _ _ (s2 _ _ hys)),hl2,?_⟩⟩
     have hu:H5 Da=some (.lst ys):=s5 _ _ (s3 _ _ (s2 _ _ hys))
     refine⟨hlt,⟨_,rfl⟩,fun b u hb=>?_,ys++[yv],dn++[y],rs',z0o,?_,by rw[hds,e4,aR];rfl,by rw[aC];simp;omega,e3⟩
     ·rw[z0t (z1e hb hD)]
      exact s5 _ _ (s3 _ _ (s2 _ _ (sm _ _ hb)))
     ·exact Reps.keep (.upd (.inr rfl) (by rw[hu];exact trivial)) _ (((rys.mono s2).mono s3 |>.mono s5).snoc r5)
 ·have e:i=xs.length:=by omega
  subst e
  refine .inl ⟨it.stop _ H' kp (aj _),?_⟩
  rw[cv]at hrs
  cases hrs
  rw[aL]at hds
  subst hds
  exact k Da ys H' (s1.trans sm) hD0 hys (rys.anti fun a z=>.inl z)
theorem z0Y(hc:X.calm=true)(S:CompScope X.N X.env.scope.names N' 1 sc)(hn:n=X.N.length)(hi:PID X (.Name x px) iter fi)
  (hg:∀s H fp pins E,PG (z0E X N' sc s H fp pins E) (.Name x px) (z3f n)) (ht:∀s H fp pins E,x0h (z0E X N' sc s H fp pins E) ifs (tT X.K fc)) (he:∀s H fp pins E,PE (z0E X N' sc s H fp pins E) elt (tD X.K fe))
  (hs:∀x,foldedSetIterable iter X.env x=pure x:=by intro _;rfl):PF X (.ListComp elt [⟨.Name x px,iter,ifs,0⟩] sc pos) (z0X fi fc fe):=by
 intro pins s σ H Q I hq
 exact y2V hc S hi ⟨hg,ht,he⟩ hs pins s σ H Q I (y4x (by rw[hn,I.len]) hq)
theorem x3n{i:Nat}{y:Str}{py spos:Pos}(hN:X.N.Nodup)(hy:X.N[i]? = some y)(hyl:X.env.scope.names.lookup y=some .local)(hc:X.calm=true)(S:CompScope X.N X.env.scope.names N' 1 sc)(hn:n=X.N.length)(hi:PID X (.Name x px) iter fi)
  (hg:∀s H fp pins E,PG (z0E X N' sc s H fp pins E) (.Name x px) (z3f n)) (ht:∀s H fp pins E,x0h (z0E X N' sc s H fp pins E) ifs (tT X.K fc)) (he:∀s H fp pins E,PE (z0E X N' sc s H fp pins E) elt (tD X.K fe))
  (hsw:swapsWith (.ListComp elt [⟨.Name x px,iter,ifs,0⟩] sc pos) (some (.Name y py)) spos.line X.env=pure true:=by rfl) (hs:∀x,foldedSetIterable iter X.env x=pure x:=by intro _;rfl):
  PS X (.Assign [.Name y py] (.ListComp elt [⟨.Name x px,iter,ifs,0⟩] sc pos) spos) (tAsg (tF X.K (z0X fi fc fe)) (z3f i)):=by
 intro pins s σ H D I hq
 exact ps_setc hc S hN hy hyl hi ⟨hg,ht,he⟩ hsw hs pins s σ H D I (y4x (by rw[hn,I.len]) hq)
end
inductive SD where
 |sh (d:D) | ow (d:D) | bo (r:Nat) (d:D)
abbrev SS:=List (Option SD)
def SD.val:SD->D
 |.sh d=>d
 |.ow d=>d
 |.bo _ d=>d
def z0A(δ:SS):DS:=δ.map (Option.map SD.val)
def shO:Option SD->Option D
 |some (.sh d)=>some d
 |_=>none
def shV(δ:SS):DS:=δ.map shO
structure RS(K:aa)(H0:Hp)(B0:Addr->Prop)(H:Hp)(σ:St)(δ:SS)(R:Nat->List Addr):Prop where
 keep:Same H0 H
 inB:InB B0 H0
 len:δ.length=σ.length
 new:∀r a,a∈R r->H0 a=none
 held:∀r a,a∈R r->∃o,H a=some o∧Mut (some o)
 disj:∀r s a,a∈R r->a∈R s->r=s
 sh:∀(i:Nat) (d:D),δ[i]? = some (some (.sh d))->∃v,σ[i]? = some (some v)∧Rep K H (fun a=>B0 a∨∃r,a∈R r) d v
 bo:∀(i r:Nat) (d:D),δ[i]? = some (some (.bo r d))->∃v,σ[i]? = some (some v)∧Rep K H (fun a=>B0 a∨∃s,s≠r∧a∈R s) d v
 ow:∀(i:Nat) (d:D),δ[i]? = some (some (.ow d))->∃v,σ[i]? = some (some v)∧Tree K H d v (R i)∧(R i).Nodup
structure Stp(R:Nat->List Addr)(H:Hp)(R':Nat->List Addr)(H':Hp):Prop where
 keep:∀a o,H a=some o->(∀r,a∉R r)->H' a=some o
 from':∀r a,a∈R' r->(∃s,a∈R s)∨H a=none
 there:∀a,H' a=none->H a=none
theorem Stp.refl(R:Nat->List Addr)(H:Hp):Stp R H R H:=⟨fun _ _ h _=>h,fun r _ h=>.inl ⟨r,h⟩,fun _ h=>h⟩
theorem Stp.trans{R R1 R2:Nat->List Addr}{H H1 H2:Hp}(a:Stp R H R1 H1)(b:Stp R1 H1 R2 H2):Stp R H R2 H2:=by
 refine⟨fun x o h n=>b.keep x o (a.keep x o h n) fun r hr=>?_,fun r x h=>?_,fun x h=>a.there x (b.there x h)⟩
 ·rcases a.from' r x hr with⟨s,z⟩ | z
  ·exact n s z
  ·rw[h]at z;cases z
 ·rcases b.from' r x h with⟨s,z⟩ | z
  ·exact a.from' s x z
  ·exact .inr (a.there x z)
theorem Stp.same{R:Nat->List Addr}{H H':Hp}(e:Same H H'):Stp R H R H':=⟨fun a o h _=>e a o h,fun r _ h=>.inl ⟨r,h⟩,fun _ h=>e.free h⟩
section
variable{K:aa}{H0 H H':Hp}{B0:Addr->Prop}{σ:St}{δ:SS}{R:Nat->List Addr}
theorem x1F{i:Nat}{d:D}(h:(z0A δ)[i]? = some (some d)):∃x,δ[i]? = some (some x)∧x.val=d:=by
 unfold z0A at h
 rw[aB]at h
 cases e:δ[i]? with
 |none=>rw[e]at h;cases h
 |some o=>
  rw[e]at h
  cases o with
  |none=>cases h
  |some x=>cases h;exact⟨x,rfl,rfl⟩
theorem shV_get{i:Nat}{d:D}(h:(shV δ)[i]? = some (some d)):δ[i]? = some (some (.sh d)):=by
 unfold shV at h
 rw[aB]at h
 cases e:δ[i]? with
 |none=>rw[e]at h;cases h
 |some o=>
  rw[e]at h
  have h':shO o=some d:=Option.some.inj h
  unfold shO at h'
  split at h'
  ·cases h';rfl
  ·cases h'
theorem RS.all(h:RS K H0 B0 H σ δ R):RepS K H noB σ (z0A δ):=by
 refine⟨by unfold z0A;rw[ah];exact h.len,fun i d e=>?_⟩
 obtain⟨x,e',rfl⟩:=x1F e
 cases x with
 |sh d=>
  obtain⟨v,e1,r⟩:=h.sh i d e'
  exact⟨v,e1,r.anti fun _ z=>z.elim⟩
 |bo r d=>
  obtain⟨v,e1,r⟩:=h.bo i r d e'
  exact⟨v,e1,r.anti fun _ z=>z.elim⟩
 |ow d=>
  obtain⟨v,e1,t,_⟩:=h.ow i d e'
  exact⟨v,e1,t.rep d fun _ _ z=>z.elim⟩
theorem RS.shr(h:RS K H0 B0 H σ δ R):RepS K H (fun a=>B0 a∨∃r,a∈R r) σ (shV δ):=by
 refine⟨by unfold shV;rw[ah];exact h.len,fun i d e=>h.sh i d (shV_get e)⟩
theorem RS.inAll(h:RS K H0 B0 H σ δ R):InB (fun a=>B0 a∨∃r,a∈R r) H:=fun a ha=>by
 rcases ha with z | ⟨r,z⟩
 ·exact(h.inB.mono h.keep) a z
 ·obtain⟨o,e,_⟩:=h.held r a z
  exact⟨o,e⟩
theorem RS.mono(h:RS K H0 B0 H σ δ R)(e:Same H H'):RS K H0 B0 H' σ δ R:=by
 refine⟨h.keep.trans e,h.inB,h.len,h.new,fun r a z=>?_,h.disj,fun i d z=>?_,fun i r d z=>?_,fun i d z=>?_⟩
 ·obtain⟨o,e1,m⟩:=h.held r a z
  exact⟨o,e a o e1,m⟩
 ·obtain⟨v,e1,r⟩:=h.sh i d z
  exact⟨v,e1,r.mono e⟩
 ·obtain⟨v,e1,r⟩:=h.bo i r d z
  exact⟨v,e1,r.mono e⟩
 ·obtain⟨v,e1,t,nd⟩:=h.ow i d z
  exact⟨v,e1,t.mono e,nd⟩
theorem RS.setSh{i:Nat}{d:D}{v:V}(h:RS K H0 B0 H σ δ R)(r:Rep K H (fun a=>B0 a∨∃r,a∈R r) d v):RS K H0 B0 H (σ.set i (some v)) (δ.set i (some (.sh d))) R:=by
 have gs:∀{α:Type} {l:List (Option α)} {i j:Nat} {x:Option α} {y:α},(l.set i x)[j]? = some (some y)->(j=i∧x=some y)∨(j≠i∧l[j]? = some (some y)):=fun {α l i j x y} e=>by
  by_cases hj:j=i
  ·subst hj
   rw[cj]at e
   simp only[if_true]at e
   split at e
   ·exact .inl ⟨rfl,Option.some.inj e⟩
   ·cases e
  ·rw[bn (Ne.symm hj)]at e
   exact .inr ⟨hj,e⟩
 have up:∀{j:Nat} {w:V},j≠i->σ[j]? = some (some w)->(σ.set i (some v))[j]? = some (some w):=fun hj e=>by rw[bn (Ne.symm hj)];exact e
 refine⟨h.keep,h.inB,by simp[h.len],h.new,h.held,h.disj,fun j d' z=>?_,fun j r' d' z=>?_,fun j d' z=>?_⟩
 ·rcases gs z with⟨rfl,q⟩ | ⟨hj,q⟩
  ·cases q
   have hl:j<σ.length:=by
    rw[←h.len]
    by_cases hl:j<δ.length
    ·exact hl
    ·rw[eD (by simp;omega)]at z;cases z
   exact⟨v,by rw[cj];simp[hl],r⟩
  ·obtain⟨w,e1,r⟩:=h.sh j d' q
   exact⟨w,up hj e1,r⟩
 ·rcases gs z with⟨rfl,q⟩ | ⟨hj,q⟩
  ·cases q
  ·obtain⟨w,e1,r⟩:=h.bo j r' d' q
   exact⟨w,up hj e1,r⟩
 ·rcases gs z with⟨rfl,q⟩ | ⟨hj,q⟩
  ·cases q
  ·obtain⟨w,e1,t⟩:=h.ow j d' q
   exact⟨w,up hj e1,t⟩
def y1P(R:Nat->List Addr)(i:Nat)(A:List Addr):Nat->List Addr:=fun r=>if r=i then A else R r
theorem z0M{i:Nat}{A:List Addr}:y1P R i A i=A:=if_pos rfl
theorem z1n{i r:Nat}{A:List Addr}(h:r≠i):y1P R i A r=R r:=if_neg h
theorem z2f{α:Type}{l:List (Option α)}{i j:Nat}{x:Option α}{y:α}(e:(l.set i x)[j]? = some (some y)):(j=i∧x=some y∧i<l.length)∨(j≠i∧l[j]? = some (some y)):=by
 by_cases hj:j=i
 ·subst hj
  rw[cj]at e
  simp only[if_true]at e
  split at e
  ·rename_i hl
   exact .inl ⟨rfl,Option.some.inj e,hl⟩
  ·cases e
 ·rw[bn (Ne.symm hj)]at e
  exact .inr ⟨hj,e⟩
theorem RS.setOw{Hold:Hp}{i:Nat}{d:D}{v:V}{A:List Addr}(h:RS K H0 B0 Hold σ δ R)(e:Same Hold H)(t:Tree K H d v A)(nd:A.Nodup)(fr:∀a∈A,Hold a=none):RS K H0 B0 H (σ.set i (some v)) (δ.set i (some (.ow d))) (y1P R i A):=by
 have hm:=h.mono e
 have up:∀{j:Nat} {w:V},j≠i->σ[j]? = some (some w)->(σ.set i (some v))[j]? = some (some w):=fun hj e=>by rw[bn (Ne.symm hj)];exact e
 have hA:∀r a,a∈R r->a∉A:=fun r a z z'=>by
  obtain⟨o,q,_⟩:=h.held r a z
  rw[fr a z']at q;cases q
 have mem:∀r a,a∈y1P R i A r->(r=i∧a∈A)∨(r≠i∧a∈R r):=fun r a z=>by
  by_cases hr:r=i
  ·subst hr;rw[z0M]at z;exact .inl ⟨rfl,z⟩
  ·rw[z1n hr]at z;exact .inr ⟨hr,z⟩
 refine⟨hm.keep,h.inB,by simp[h.len],fun r a z=>?_,fun r a z=>?_,fun r s a z z'=>?_,fun j d' z=>?_,fun j r' d' z=>?_,fun j d' z=>?_⟩
 ·rcases mem r a z with⟨_,z⟩ | ⟨_,z⟩
  ·exact h.keep.free (fr a z)
  ·exact h.new r a z
 ·rcases mem r a z with⟨_,z⟩ | ⟨_,z⟩
  ·exact t.held d a z
  ·exact hm.held r a z
 ·rcases mem r a z with⟨h1,z⟩ | ⟨h1,z⟩ <;> rcases mem s a z' with⟨h2,z'⟩ | ⟨h2,z'⟩
  ·rw[h1,h2]
  ·exact absurd z (hA s a z')
  ·exact absurd z' (hA r a z)
  ·exact h.disj r s a z z'
 ·rcases z2f z with⟨rfl,q,_⟩ | ⟨hj,q⟩
  ·cases q
  ·obtain⟨w,e1,r⟩:=h.sh j d' q
   refine⟨w,up hj e1,Rep.anti ?_ d' ((Rep.wide (C:=fun a=>a∈A) fr d' r).mono e)⟩
   rintro a (z | ⟨r,z⟩)
   ·exact .inl (.inl z)
   ·rcases mem r a z with⟨_,z⟩ | ⟨_,z⟩
    ·exact .inr z
    ·exact .inl (.inr ⟨r,z⟩)
 ·rcases z2f z with⟨rfl,q,_⟩ | ⟨hj,q⟩
  ·cases q
  ·obtain⟨w,e1,r⟩:=h.bo j r' d' q
   refine⟨w,up hj e1,Rep.anti ?_ d' ((Rep.wide (C:=fun a=>a∈A) fr d' r).mono e)⟩
   rintro a (z | ⟨s,hs,z⟩)
   ·exact .inl (.inl z)
   ·rcases mem s a z with⟨_,z⟩ | ⟨_,z⟩
    ·exact .inr z
    ·exact .inl (.inr ⟨s,hs,z⟩)
 ·rcases z2f z with⟨rfl,q,hl⟩ | ⟨hj,q⟩
  ·cases q
   rw[z0M]
   exact⟨v,by rw[cj];simp[←h.len,hl],t,nd⟩
  ·obtain⟨w,e1,t'⟩:=hm.ow j d' q
   rw[z1n hj]
   exact⟨w,up hj e1,t'⟩
def x1k(i:Nat)(δ:SS):SS:=match δ[i]? with
 |some (some (.ow d))=>δ.set i (some (.sh d))
 |_=>δ
theorem RS.frz(i:Nat)(h:RS K H0 B0 H σ δ R):∃R',RS K H0 B0 H σ (x1k i δ) R'∧∀r a,a∈R' r->a∈R r:=by
 unfold x1k
 split
 ·rename_i d e
  obtain⟨v,e1,t,nd⟩:=h.ow i d e
  refine⟨y1P R i [],?_,fun r a z=>?_⟩
  ·have mem:∀r a,a∈y1P R i [] r->r≠i∧a∈R r:=fun r a z=>by
    by_cases hr:r=i
    ·subst hr;rw[z0M]at z;cases z
    ·rw[z1n hr]at z;exact⟨hr,z⟩
   refine⟨h.keep,h.inB,by simp[h.len],fun r a z=>h.new r a (mem r a z).2,fun r a z=>h.held r a (mem r a z).2,fun r s a z z'=>h.disj r s a (mem r a z).2 (mem s a z').2,fun j d' z=>?_,fun j r' d' z=>?_,fun j d' z=>?_⟩
   ·rcases z2f z with⟨rfl,q,hl⟩ | ⟨hj,q⟩
    ·cases q
     refine⟨v,e1,t.rep d fun a ha=>?_⟩
     rintro (z | ⟨r,z⟩)
     ·obtain⟨o,q⟩:=h.inB a z
      rw[h.new j a ha]at q;cases q
     ·exact(mem r a z).1 (h.disj r j a (mem r a z).2 ha)
    ·obtain⟨w,e2,r⟩:=h.sh j d' q
     exact⟨w,e2,r.anti fun a z=>z.imp id fun⟨r,z⟩=>⟨r,(mem r a z).2⟩⟩
   ·rcases z2f z with⟨rfl,q,_⟩ | ⟨hj,q⟩
    ·cases q
    ·obtain⟨w,e2,r⟩:=h.bo j r' d' q
     exact⟨w,e2,r.anti fun a z=>z.imp id fun⟨s,hs,z⟩=>⟨s,hs,(mem s a z).2⟩⟩
   ·rcases z2f z with⟨rfl,q,_⟩ | ⟨hj,q⟩
    ·cases q
    ·rw[z1n hj]
     exact h.ow j d' q
  ·by_cases hr:r=i
   ·subst hr;rw[z0M]at z;cases z
   ·rw[z1n hr]at z;exact z
 ·exact⟨R,h,fun _ _ z=>z⟩
end
inductive Out where
 |nx (δ:SS) | bk (δ:SS) | ct (δ:SS) | rt (d:D) | rb (d:D) (δ:SS) | ex (c:Nat) (δ:SS)
abbrev XR:=Nat->St->Hp->Prop
abbrev noX:XR:=fun _ _ _=>False
def Ret(K:aa)(H0:Hp)(B0:Addr->Prop)(fr:Bool)(H:Hp)(d:D)(v:V):Prop:=
 Same H0 H∧(fr=true->∃A,Tree K H d v A∧A.Nodup∧∀a∈A,H0 a=none)∧(fr=false->Rep K H B0 d v)
def Aft(K:aa)(H0:Hp)(B0:Addr->Prop)(fr:Bool)(RX:XR)(R:Nat->List Addr)(H:Hp)(D:Ends):Out->Prop
 |.nx δ'=>∀σ' H' R',RS K H0 B0 H' σ' δ' R'->Stp R H R' H'->D.nx σ' H'
 |.bk δ'=>∀σ' H' R',RS K H0 B0 H' σ' δ' R'->Stp R H R' H'->D.bk σ' H'
 |.ct δ'=>∀σ' H' R',RS K H0 B0 H' σ' δ' R'->Stp R H R' H'->D.ct σ' H'
 |.rt d=>∀v H',Ret K H0 B0 fr H' d v->(∀a,H' a=none->H a=none)->D.rt v H'
 |.rb d δ'=>∀v σ' H' R' A2,RS K H0 B0 H' σ' δ' R'->Stp R H R' H'->Tree K H' d v A2->A2.Nodup->(∀a∈A2,H0 a=none∧∀r,a∉R' r)->D.rt v H'
 |.ex c δ'=>∀σ' H' R',RS K H0 B0 H' σ' δ' R'->Stp R H R' H'->RX c σ' H'
def tS(K:aa)(H0:Hp)(B0:Addr->Prop)(fr:Bool)(RX:XR)(g:SS->Option Out):TS:=fun D σ H=>∃δ R o,RS K H0 B0 H σ δ R∧g δ=some o∧Aft K H0 B0 fr RX R H D o
theorem Aft.back{K:aa}{H0:Hp}{B0:Addr->Prop}{fr:Bool}{RX:XR}{R R1:Nat->List Addr}{H H1:Hp}{D:Ends}{o:Out}(h:Aft K H0 B0 fr RX R H D o)(s:Stp R H R1 H1):Aft K H0 B0 fr RX R1 H1 D o:=by
 cases o with
 |nx δ'=>exact fun σ' H' R' r t=>h σ' H' R' r (s.trans t)
 |bk δ'=>exact fun σ' H' R' r t=>h σ' H' R' r (s.trans t)
 |ct δ'=>exact fun σ' H' R' r t=>h σ' H' R' r (s.trans t)
 |rt d=>exact fun v H' r t=>h v H' r fun a z=>s.there a (t a z)
 |rb d δ'=>exact fun v σ' H' R' A2 r t=>h v σ' H' R' A2 r (s.trans t)
 |ex c δ'=>exact fun σ' H' R' r t=>h σ' H' R' r (s.trans t)
theorem PS.imp{X:Cx}{st:Stmt}{t t':TS}(h:PS X st t)(w:∀D σ H,t' D σ H->t D σ H):PS X st t':=fun pins s σ H D I q=>h pins s σ H D I (w D σ H q)
theorem PSs.imp{X:Cx}{st:List Stmt}{t t':TS}(h:PSs X st t)(w:∀D σ H,t' D σ H->t D σ H):PSs X st t':=fun pins s σ H D I q=>h pins s σ H D I (w D σ H q)
section
variable{X:Cx}{H0:Hp}{B0:Addr->Prop}{fr:Bool}{RX:XR}{st:Stmt}{sts:List Stmt}{e:Expr}{pos:Pos}
def z0V(g h:SS->Option Out):SS->Option Out:=fun δ=>(g δ).bind fun o=>match o with
 |.nx δ'=>h δ'
 |o=>some o
def z1T:SS->Option Out:=fun δ=>some (.nx δ)
theorem z1q:PSs X [] (tS X.K H0 B0 fr RX z1T):=pss_nil.imp fun D σ H ⟨δ,R,o,rs,q,k⟩=>by
 cases q
 exact k σ H R rs (.refl R H)
theorem z0h{g h:SS->Option Out}(h1:PS X st (tS X.K H0 B0 fr RX g))(h2:PSs X sts (tS X.K H0 B0 fr RX h)):PSs X (st::sts) (tS X.K H0 B0 fr RX (z0V g h)):=(x1K h1 h2).imp fun D σ H ⟨δ,R,o,rs,q,k⟩=>by
 unfold z0V at q
 cases e:g δ with
 |none=>rw[e]at q;cases q
 |some o1=>
  rw[e]at q
  refine⟨δ,R,o1,rs,e,?_⟩
  cases o1 with
  |nx δ'=>
   have q':h δ'=some o:=q
   exact fun σ' H' R' rs' s'=>⟨δ',R',o,rs',q',k.back s'⟩
  |bk δ'=>cases q;exact k
  |ct δ'=>cases q;exact k
  |rt d=>cases q;exact k
  |rb d δ'=>cases q;exact k
  |ex c δ'=>cases q;exact k
theorem z0j{g:SS->Option Out}(h1:PS X st (tS X.K H0 B0 fr RX g)):PSs X [st] (tS X.K H0 B0 fr RX g):=pss_one h1
abbrev PAsg(X:Cx)(st:Stmt)(i:Nat)(te:TE):Prop:=PS X st (tAsg te (z3f i))
theorem PAsg.imp{i:Nat}{t t':TE}(h:PAsg X st i t)(w:∀σ H Q,t' σ H Q->t σ H Q):PAsg X st i t':=PS.imp h fun D σ H q=>w σ H _ q
theorem z0H{i:Nat}{x:Str}{te:TE}{pos':Pos}(hN:X.N.Nodup)(hi:X.N[i]? = some x)(hx:Loc X.env.scope x)(he:PE X e te)(hs:swapsWith e (some (.Name x pos')) pos.line X.env=pure false:=by rfl)(hf:X.fn x=true∨X.env.scope.names.lookup x=some .local:=by first | exact .inl rfl | exact .inr rfl | assumption):
  PAsg X (.Assign [.Name x pos'] e pos) i te:=ps_set hN hi hx he hs hf
def y1Q(i:Nat)(f:DE):SS->Option Out:=fun δ=>(f (shV δ)).map fun d=>.nx (δ.set i (some (.sh d)))
def z5Z(i:Nat)(f:DE):SS->Option Out:=fun δ=>(f (z0A δ)).bind fun d=>if d.imm=true then some (.nx (δ.set i (some (.sh d))))else none
def y1B(i:Nat)(f:DE):SS->Option Out:=fun δ=>(f (z0A δ)).map fun d=>.nx (δ.set i (some (.ow d)))
theorem z3p{i:Nat}{f:DE}(h:PAsg X st i (tD X.K f)):PS X st (tS X.K H0 B0 fr RX (y1Q i f)):=PS.imp h fun D σ H ⟨δ,R,o,rs,q,k⟩=>by
 unfold y1Q at q
 cases e:f (shV δ)with
 |none=>rw[e]at q;cases q
 |some d=>
  rw[e]at q
  cases q
  exact⟨_,shV δ,d,rs.inAll,rs.shr,e,fun v H' s r=>k _ H' R ((rs.mono s).setSh r) (.same s)⟩
theorem z1j{i:Nat}{f:DE}(h:PAsg X st i (tD X.K f)):PS X st (tS X.K H0 B0 fr RX (z5Z i f)):=PS.imp h fun D σ H ⟨δ,R,o,rs,q,k⟩=>by
 unfold z5Z at q
 cases e:f (z0A δ)with
 |none=>rw[e]at q;cases q
 |some d=>
  rw[e]at q
  have q':(if d.imm=true then some (Out.nx (δ.set i (some (.sh d))))else none)=some o:=q
  split at q'
  ·rename_i hi
   cases q'
   exact⟨noB,z0A δ,d,.no,rs.all,e,fun v H' s r=>k _ H' R ((rs.mono s).setSh (r.imm d hi)) (.same s)⟩
  ·cases q'
theorem z2L{i:Nat}{f:DE}(h:PAsg X st i (tN X.K f)):PS X st (tS X.K H0 B0 fr RX (y1B i f)):=PS.imp h fun D σ H ⟨δ,R,o,rs,q,k⟩=>by
 unfold y1B at q
 cases e:f (z0A δ)with
 |none=>rw[e]at q;cases q
 |some d=>
  rw[e]at q
  cases q
  refine⟨z0A δ,d,rs.all,e,fun v H' A s t nd fr'=>k _ H' (y1P R i A) (rs.setOw s t nd fr') ⟨fun a o h _=>s a o h,fun r a z=>?_,fun a z=>s.free z⟩⟩
  by_cases hr:r=i
  ·subst hr;rw[z0M]at z;exact .inr (fr' a z)
  ·rw[z1n hr]at z;exact .inl ⟨r,z⟩
def z3m(f:DE):SS->Option Out:=fun δ=>(f (z0A δ)).bind fun d=>if d.imm=true then some (.rt d)else none
def z7z(f:DE):SS->Option Out:=fun δ=>(f (z0A δ)).map .rt
def retS(f:DE):SS->Option Out:=fun δ=>(f (shV δ)).map .rt
def x0O(i:Nat):SS->Option Out:=fun δ=>match δ[i]? with
 |some (some (.ow d))=>some (.rt d)
 |_=>none
theorem z0w{f:DE}(h:PD X e f):PS X (.Return (some e) pos) (tS X.K H0 B0 fr RX (z3m f)):=PS.imp (z8i h) fun D σ H ⟨δ,R,o,rs,q,k⟩=>by
 unfold z3m at q
 cases e:f (z0A δ)with
 |none=>rw[e]at q;cases q
 |some d=>
  rw[e]at q
  have q':(if d.imm=true then some (Out.rt d)else none)=some o:=q
  split at q'
  ·rename_i hi
   cases q'
   exact⟨noB,z0A δ,d,.no,rs.all,e,fun v H' s r=>k v H' ⟨rs.keep.trans s,fun _=>⟨[],r.immTree d hi,bc,(fun a z=>nomatch z)⟩,fun _=>r.imm d hi⟩ fun a z=>s.free z⟩
  ·cases q'
theorem z1z{f:DE}(h:PN X e f):PS X (.Return (some e) pos) (tS X.K H0 B0 fr RX (z7z f)):=PS.imp (z8i h) fun D σ H ⟨δ,R,o,rs,q,k⟩=>by
 unfold z7z at q
 cases e:f (z0A δ)with
 |none=>rw[e]at q;cases q
 |some d=>
  rw[e]at q
  cases q
  exact⟨z0A δ,d,rs.all,e,fun v H' A s t nd fr'=>k v H' ⟨rs.keep.trans s,fun _=>⟨A,t,nd,fun a z=>rs.keep.free (fr' a z)⟩,fun _=>t.rep d fun a z=>rs.inB.fresh (rs.keep.free (fr' a z))⟩ fun a z=>s.free z⟩
theorem y5X{f:DE}(h:PD X e f):PS X (.Return (some e) pos) (tS X.K H0 B0 false RX (retS f)):=PS.imp (z8i h) fun D σ H ⟨δ,R,o,rs,q,k⟩=>by
 unfold retS at q
 cases e:f (shV δ)with
 |none=>rw[e]at q;cases q
 |some d=>
  rw[e]at q
  cases q
  exact⟨_,shV δ,d,rs.inAll,rs.shr,e,fun v H' s r=>k v H' ⟨rs.keep.trans s,(fun z=>nomatch z),fun _=>r.anti fun a z=>.inl z⟩ fun a z=>s.free z⟩
theorem y1x{i:Nat}(h:PE X e (y5k i)):PS X (.Return (some e) pos) (tS X.K H0 B0 fr RX (x0O i)):=PS.imp (z8i h) fun D σ H ⟨δ,R,o,rs,q,k⟩=>by
 unfold x0O at q
 split at q
 ·rename_i d e
  cases q
  obtain⟨v,e1,t,nd⟩:=rs.ow i d e
  exact⟨v,e1,k v H ⟨rs.keep,fun _=>⟨R i,t,nd,fun a z=>rs.new i a z⟩,fun _=>t.rep d fun a z=>rs.inB.fresh (rs.new i a z)⟩ fun a z=>z⟩
 ·cases q
def ifO(c:DS->Option Bool)(g h:SS->Option Out):SS->Option Out:=fun δ=>(c (z0A δ)).bind fun b=>if b=true then g δ else h δ
theorem z8o{c:Expr}{a b:List Stmt}{f:DS->Option Bool}{g h:SS->Option Out}(hc:PTD X c f)(ha:PSs X a (tS X.K H0 B0 fr RX g))(hb:PSs X b (tS X.K H0 B0 fr RX h)):PS X (.If c a b pos) (tS X.K H0 B0 fr RX (ifO f g h)):=PS.imp (ps_if hc ha hb) fun D σ H ⟨δ,R,o,rs,q,k⟩=>by
 unfold ifO at q
 cases e:f (z0A δ)with
 |none=>rw[e]at q;cases q
 |some b=>
  rw[e]at q
  have q':(if b=true then g δ else h δ)=some o:=q
  refine⟨noB,z0A δ,b,.no,rs.all,e,fun H' s=>?_⟩
  cases b with
  |true=>
   rw[if_pos rfl]at q'
   refine iteT ?_
   exact⟨δ,R,o,rs.mono s,q',k.back (.same s)⟩
  |false=>
   rw[if_neg ak]at q'
   refine iteF ?_
   exact⟨δ,R,o,rs.mono s,q',k.back (.same s)⟩
def frzO(i:Nat)(g:SS->Option Out):SS->Option Out:=fun δ=>g (x1k i δ)
theorem s_frz(i:Nat){g:SS->Option Out}(h:PS X st (tS X.K H0 B0 fr RX g)):PS X st (tS X.K H0 B0 fr RX (frzO i g)):=PS.imp h fun D σ H ⟨δ,R,o,rs,q,k⟩=>by
 obtain⟨R',rs',hs⟩:=rs.frz i
 exact⟨x1k i δ,R',o,rs',q,k.back ⟨fun a o h _=>h,fun r a z=>.inl ⟨r,hs r a z⟩,fun a z=>z⟩⟩
def z8X(i:Nat)(b:SS->Option Out):List D->SS->Option Out
 |[],δ=>some (.nx δ)
 |x::r,δ=>(b (δ.set i (some (.sh x)))).bind fun o=>match o with
  |.nx δ'=>z8X i b r δ'
  |.ct δ'=>z8X i b r δ'
  |.bk δ'=>some (.nx δ')
  |.rt d=>some (.rt d)
  |.rb d δ'=>some (.rb d δ')
  |.ex c δ'=>some (.ex c δ')
def y0a(i:Nat)(f:DS->Option (List D))(b:SS->Option Out):SS->Option Out:=fun δ=>(f (shV δ)).bind fun ds=>z8X i b ds δ
theorem Stp.keepB{K:aa}{R R':Nat->List Addr}{H H':Hp}{B:Addr->Prop}(s:Stp R H R' H')(hR:∀r a,a∈R r->B a)(hm:∀r a,a∈R r->∃o,H a=some o∧Mut (some o)):Keep K B H H':=by
 have kp:∀a o,H a=some o->¬ Mut (some o)->H' a=some o:=fun a o e n=>s.keep a o e fun r z=>by
  obtain⟨o',e',m⟩:=hm r a z
  rw[e]at e';cases e'
  exact n m
 refine⟨fun a xs n h=>s.keep a _ h fun r z=>n (hR r a z),fun a xs h=>?_,fun a xs h=>?_,fun a kvs n h=>s.keep a _ h fun r z=>n (hR r a z),fun a φ n h=>s.keep a _ h fun r z=>n (hR r a z),fun a _ _ _ n h=>s.keep a _ h fun r z=>n (hR r a z)⟩
 ·rcases h with (h | ⟨o,h⟩) | h
  ·exact .inl (.inl (kp a _ h fun z=>z))
  ·exact .inl (.inr ⟨o,kp a _ h fun z=>z⟩)
  ·exact .inr h
 ·rcases h with⟨o,h⟩ | h
  ·exact .inl ⟨o,kp a _ h fun z=>z⟩
  ·exact .inr h
theorem z4T{i:Nat}{x:Str}{px:Pos}{iter:Expr}{body:List Stmt}{f:DS->Option (List D)}{g:SS->Option Out}(hp:PassesOwn (model X.prog X.w) X.A X.env X.xe)(hc:X.calm=true)(hi:PID X (.Name x px) iter f)(hg:PG X (.Name x px) (z3f i))(hb:PSs X body (tS X.K H0 B0 fr RX g))
  (hs:∀x,foldedSetIterable iter X.env x=pure x:=by intro _;rfl):PS X (.For (.Name x px) iter body [] pos) (tS X.K H0 B0 fr RX (y0a i f g)):=PS.imp (x2P hp hc hi hg hb hs) fun D σ H ⟨δ,R,o,rs,q,k⟩=>by
 unfold y0a at q
 cases e:f (shV δ)with
 |none=>rw[e]at q;cases q
 |some ds=>
 rw[e]at q
 have q:z8X i g ds δ=some o:=q
 refine⟨_,shV δ,ds,rs.inAll,rs.shr,e,fun J H1 s1 itw=>?_⟩
 have rs1:=rs.mono s1
 have it:=itw (fun a=>H1 a=none) fun a z=>z
 refine⟨fun n m σ' H'=>m=ds.length - n∧n≤ds.length∧∃δ' R',RS X.K H0 B0 H' σ' δ' R'∧Stp R H1 R' H'∧z8X i g (ds.drop n) δ'=some o,⟨ds.length,by simp,bJ _,δ,R,rs1,.refl R H1,q⟩,?_⟩
 rintro n m σ' H' ⟨rfl,hn,δ',R',rs',s',q'⟩
 have kp:Keep X.K (fun a=>(B0 a∨∃r,a∈R r)∨H1 a=none) H1 H':=s'.keepB (fun r a z=>.inl (.inr ⟨r,z⟩)) rs1.held
 by_cases hlt:n<ds.length
 ·have hx:ds.drop n=ds[n]::ds.drop (n+1):=aM hlt
  rw[hx]at q'
  unfold z8X at q'
  cases eb:g (δ'.set i (some (.sh ds[n])))with
  |none=>rw[eb]at q';cases q'
  |some ob=>
   rw[eb]at q'
   refine .inr ⟨it.go n H' kp hlt,fun σ2 H2=>n+1≤ds.length∧∃δ2 R2,RS X.K H0 B0 H2 σ2 δ2 R2∧Stp R H1 R2 H2∧z8X i g (ds.drop (n+1)) δ2=some o,fun σ2 H2 z=>⟨ds.length - (n+1),by omega,rfl,z⟩,fun xv H2 hy=>?_⟩
   obtain⟨s2,d,hd,rd⟩:=it.yld n H' xv H2 kp hy
   have hdi:d=ds[n]:=by
    have:=hd hlt
    rw[ac hlt]at this
    exact(Option.some.inj this).symm
   subst hdi
   have rd':Rep X.K H2 (fun a=>B0 a∨∃r,a∈R' r) ds[n] xv:=rd.anti fun a z=>by
    rcases z with z | ⟨r,z⟩
    ·exact .inl (.inl z)
    ·rcases s'.from' r a z with z | z
     ·exact .inl (.inr z)
     ·exact .inr z
   have rs2:=(rs'.mono s2).setSh (i:=i) rd'
   have st2:Stp R H1 R' H2:=s'.trans (.same s2)
   refine⟨_,R',ob,rs2,eb,?_⟩
   cases ob with
   |nx δ2=>
    have q2:z8X i g (ds.drop (n+1)) δ2=some o:=q'
    exact fun σ3 H3 R3 rs3 s3=>⟨hlt,δ2,R3,rs3,st2.trans s3,q2⟩
   |ct δ2=>
    have q2:z8X i g (ds.drop (n+1)) δ2=some o:=q'
    exact fun σ3 H3 R3 rs3 s3=>⟨hlt,δ2,R3,rs3,st2.trans s3,q2⟩
   |bk δ2=>
    cases q'
    exact fun σ3 H3 R3 rs3 s3=>k σ3 H3 R3 rs3 ((Stp.same s1).trans (st2.trans s3))
   |rt d=>
    cases q'
    exact k.back ((Stp.same s1).trans st2)
   |rb d δ2=>
    cases q'
    exact k.back ((Stp.same s1).trans st2)
   |ex c δ2=>
    cases q'
    exact k.back ((Stp.same s1).trans st2)
 ·have en:n=ds.length:=by omega
  subst en
  rw[cv]at q'
  cases q'
  exact .inl ⟨it.stop _ H' kp (aj _),k σ' H' R' rs' ((Stp.same s1).trans s')⟩
end
def z1y(np nl:Nat)(g:SS->Option Out):List D->Option D:=fun ds=>if ds.length=np then(match g (ds.map (fun d=>some (.sh d))++am nl none)with
 |some (.rt d)=>some d
 |some (.nx _)=>some .non
 |_=>none)else none
theorem z6l{np nl:Nat}{g:SS->Option Out}{ds:List D}{d:D}(h:z1y np nl g ds=some d):ds.length=np:=by
 unfold z1y at h
 split at h
 ·assumption
 ·cases h
theorem z9w{K:aa}{H:Hp}{B:Addr->Prop}{ds:List D}{vs:List V}{N:List Str}{nl:Nat}(hB:InB B H)(r:Reps K H B ds vs)(hN:N.length=ds.length+nl):
  RS K H B H (z3Y N vs) (ds.map (fun d=>some (.sh d))++am nl none) (fun _=>[]):=by
 have hl:=r.length
 have get:∀{i:Nat} {x:SD},(ds.map (fun d=>some (SD.sh d))++am nl none)[i]? = some (some x)->∃d,ds[i]? = some d∧x = .sh d:=fun {i x} e=>by
  by_cases hi:i<ds.length
  ·rw[aY (by simpa using hi),aB,ac hi]at e
   cases e
   exact⟨ds[i],ac hi,rfl⟩
  ·rw[bp (by simpa using hi),cb]at e
   split at e <;> cases e
 refine⟨.refl H,hB,?_,(fun _ _ z=>nomatch z),(fun _ _ z=>nomatch z),(fun _ _ _ z=>nomatch z),fun i d e=>?_,fun i r d e=>?_,fun i d e=>?_⟩
 ·unfold z3Y
  simp
  omega
 ·obtain⟨d',e1,e2⟩:=get e
  cases e2
  obtain⟨v,e3,rv⟩:=r.get e1
  refine⟨v,?_,rv.anti fun a z=>z.elim id (fun⟨_,z⟩=>nomatch z)⟩
  unfold z3Y
  have hi:i<vs.length:=(aP.mp e3).1
  rw[aY (by simpa using hi),aB,e3]
  rfl
 ·obtain⟨d',_,e2⟩:=get e
  cases e2
 ·obtain⟨d',_,e2⟩:=get e
  cases e2
section
variable{P:dw}{w:eX}{K:aa}{mg:Str->Option Value}{base:Heap}
theorem fnN{x qual:Str}{st:Stmt}{f:Addr}{fd:eY}{N ps:List Str}{k np nl:Nat}{g:SS->Option Out}(F:Fun K x qual st f fd)(S:FnScope N ps (z0e st))(hnp:ps.length=np)(hN:N.length=np+nl)
  (hbody:∀(cdv:Value) (A:Around) (outer:List Env) (s:Shared) (H:Hp) (E:XK),Room k (A.deeper (envOfC qual (z0e st) s.heap.objs.size f cdv)) →
   PSs (y1N CX0 P w K mg base N qual (z0e st) f cdv A outer s H E).nox (z1f st) (tS K H noB true noX g)):FnOk P w K mg base CX0 (k+1) f fd ps (spN K (z1y np nl g)):=by
 refine F.ok S (fun vs H Q E h=>?_) fun cdv A outer s H vs Q E hr h=>?_
 ·obtain⟨ds,d,r,e,_⟩:=h
  rw[←r.length,z6l e,hnp]
 ·obtain⟨ds,d,r,e,kk⟩:=h
  refine⟨_,hbody cdv A outer s H E hr,?_⟩
  have hl:=z6l e
  unfold z1y at e
  rw[if_pos hl]at e
  have rs:=z9w (nl:=nl) .no r (N:=N) (by omega)
  split at e
  ·rename_i d' eg
   cases e
   exact⟨_,_,_,rs,eg,fun v H' z _=>by
    obtain⟨A',t,nd,fr⟩:=z.2.1 rfl
    exact kk v H' A' z.1 t nd fr⟩
  ·rename_i δ' eg
   cases e
   exact⟨_,_,_,rs,eg,fun σ' H' R' rs' _=>kk .non H' [] rs'.keep ⟨rfl,rfl⟩ bc (fun a z=>nomatch z)⟩
  ·cases e
theorem z2s{x qual:Str}{st:Stmt}{f:Addr}{fd:eY}{N ps:List Str}{k np nl:Nat}{g:SS->Option Out}(F:Fun K x qual st f fd)(hm:mg x=some (.ref f))(hb:Binds K fd ps [])(S:FnScope N ps (z0e st))(hnp:ps.length=np)(hN:N.length=np+nl)
  (hbody:∀(cdv:Value) (A:Around) (outer:List Env) (s:Shared) (H:Hp) (E:XK),Room k (A.deeper (envOfC qual (z0e st) s.heap.objs.size f cdv)) →
   PSs (y1N CX0 P w K mg base N qual (z0e st) f cdv A outer s H E).nox (z1f st) (tS K H noB true noX g)):DefOk P w K mg base (k+1) x (spN K (z1y np nl g)):=
 ⟨f,fd,ps,hm,F.kp,hb,fnN F S hnp hN hbody⟩
theorem defR{x qual:Str}{st:Stmt}{f:Addr}{fd:eY}{N ps:List Str}{k np nl:Nat}{g:SS->Option Out}(F:Fun K x qual st f fd)(hm:mg x=some (.ref f))(hb:Binds K fd ps [])(S:FnScope N ps (z0e st))(hnp:ps.length=np)(hN:N.length=np+nl)
  (hbody:∀(cdv:Value) (A:Around) (outer:List Env) (s:Shared) (H:Hp) (E:XK) (B:Addr->Prop),Room k (A.deeper (envOfC qual (z0e st) s.heap.objs.size f cdv)) →
   PSs (y1N CX0 P w K mg base N qual (z0e st) f cdv A outer s H E).nox (z1f st) (tS K H B false noX g)):DefOk P w K mg base (k+1) x (spR K (z1y np nl g)):=by
 refine⟨f,fd,ps,hm,F.kp,hb,F.ok S (fun vs H Q E h=>?_) fun cdv A outer s H vs Q E hr h=>?_⟩
 ·obtain⟨B,ds,d,_,r,e,_⟩:=h
  rw[←r.length,z6l e,hnp]
 ·obtain⟨B,ds,d,hB,r,e,kk⟩:=h
  refine⟨_,hbody cdv A outer s H E B hr,?_⟩
  have hl:=z6l e
  unfold z1y at e
  rw[if_pos hl]at e
  have rs:=z9w (nl:=nl) hB r (N:=N) (by omega)
  split at e
  ·rename_i d' eg
   cases e
   exact⟨_,_,_,rs,eg,fun v H' z _=>kk v H' z.1 (z.2.2 rfl)⟩
  ·rename_i δ' eg
   cases e
   exact⟨_,_,_,rs,eg,fun σ' H' R' rs' _=>kk .non H' rs'.keep rfl⟩
  ·cases e
end
end L2
namespace L2
open PySem PySem.Spec PyProof.Rows PySem.SeqAt
mutual
def toP:D->PyData
 |.non=>.none
 |.bl b=>.bool b
 |.int i=>.int i
 |.str x=>.str x
 |.lst ds=>.list (y1M ds)
 |.tup ds=>.tuple (y1M ds)
 |.scr ns=>.list (ns.map .int)
 |.dct _ _=>.dict []
 |.exc _=>.dict []
 |.obj _ _ _ _=>.dict []
 |.cel _ _=>.dict []
def y1M:List D->List PyData
 |[]=>[]
 |d::ds=>toP d::y1M ds
end
theorem z8j{h:Heap}:∀(ns:List Int) {us:List Value},Vals (ns.map V.int) us->∃as,ReadsAll h us (ns.map .int) as
 |[],_,.nil=>⟨_,.nil⟩
 |n::ns,_,.cons r t=>by
  obtain⟨tk,rfl⟩:=r
  obtain⟨as,ra⟩:=z8j (h:=h) ns t
  exact⟨_,.cons (.int n tk) ra⟩
section
variable{X:Cx}{pins:List (Addr×Obj)}{σ:St}{H:Hp}{s:Shared}{B:Addr->Prop}
mutual
theorem z0R(I:Inv X pins σ H s):∀(d:D) {v:V} {u:Value},(toP d).canLay0=true->Rep X.K H B d v->RelV v u->∃as,Reads s.heap u (toP d) as
 |.non,_,_,_,h,r=>by cases h;cases r;exact⟨_,.none⟩
 |.bl b,_,_,_,h,r=>by cases h;cases r;exact⟨_,.bool b⟩
 |.int i,_,_,_,h,r=>by cases h;obtain⟨t,rfl⟩:=r;exact⟨_,.int i t⟩
 |.str x,_,_,_,h,r=>by cases h;obtain⟨t,rfl⟩:=r;exact⟨_,.str x t⟩
 |.lst ds,_,_,hc,h,r=>by
  unfold Rep at h
  obtain⟨a,xs,rfl,_,hq,rs⟩:=h
  cases r
  obtain⟨its,rv,⟨o,n,e,c,_,dt⟩,_⟩:=I.list (SqL.of hq)
  have hc':PyData.canLayAll0 (y1M ds)=true:=by unfold toP PyData.canLay0 at hc;exact hc
  obtain⟨as,ra⟩:=z5y I ds hc' rs rv
  unfold toP
  exact⟨_,.list e c dt (by simpa using ra)⟩
 |.tup ds,_,_,hc,h,r=>by
  unfold Rep at h
  obtain⟨a,xs,rfl,hq,rs⟩:=h
  cases r
  obtain⟨its,rv,⟨o,e,c,n,dt⟩,_⟩:=I.tuple hq
  have hc':PyData.canLayAll0 (y1M ds)=true:=by unfold toP PyData.canLay0 at hc;exact hc
  obtain⟨as,ra⟩:=z5y I ds hc' rs rv
  unfold toP
  exact⟨_,.tuple e c dt (by simpa using ra)⟩
 |.scr ns,_,_,hc,h,r=>by
  unfold Rep at h
  obtain⟨a,rfl,hq⟩:=h
  cases r
  obtain⟨its,rv,⟨o,n,e,c,_,dt⟩,_⟩:=I.list hq.sq
  unfold toP
  obtain⟨as,ra⟩:=z8j (h:=s.heap) ns rv
  exact⟨_,.list e c dt (by simpa using ra)⟩
 |.dct _ _,_,_,hc,_,_=>by unfold toP PyData.canLay0 at hc;cases hc
 |.exc _,_,_,hc,_,_=>by unfold toP PyData.canLay0 at hc;cases hc
 |.obj _ _ _ _,_,_,hc,_,_=>by unfold toP PyData.canLay0 at hc;cases hc
 |.cel _ _,_,_,hc,_,_=>by unfold toP PyData.canLay0 at hc;cases hc
theorem z5y(I:Inv X pins σ H s):∀(ds:List D) {xs:List V} {us:List Value},PyData.canLayAll0 (y1M ds)=true->Reps X.K H B ds xs->Vals xs us->∃as,ReadsAll s.heap us (y1M ds) as
 |[],_,_,_,h,r=>by
  unfold Reps at h
  subst h
  cases r
  exact⟨_,.nil⟩
 |d::ds,_,_,hc,h,r=>by
  unfold Reps at h
  obtain⟨x,rr,rfl,h1,h2⟩:=h
  unfold y1M PyData.canLayAll0 at hc
  rw[aA]at hc
  cases r with
  |cons r1 r2=>
   obtain⟨as,ra⟩:=z0R I d hc.1 h1 r1
   obtain⟨bs,rb⟩:=z5y I ds hc.2 h2 r2
   unfold y1M
   exact⟨_,.cons ra rb⟩
end
end
def okP(d:D):Bool:=(toP d).canLay0&&decide ((toP d).depth≤60)
def eqD(x y:D):Option D:=if(okP x&&okP y)=true then some (.bl (PyData.eqv (toP x) (toP y)))else none
def neD(x y:D):Option D:=if(okP x&&okP y)=true then some (.bl (!PyData.eqv (toP x) (toP y)))else none
def x0u(x:D):D->Option Bool
 |.lst ds=>if(okP x&&okP (.lst ds))=true then some (ds.any fun y=>PyData.eqv (toP y) (toP x))else none
 |.tup ds=>if(okP x&&okP (.tup ds))=true then some (ds.any fun y=>PyData.eqv (toP y) (toP x))else none
 |_=>none
def inD(x y:D):Option D:=(x0u x y).map .bl
def ninD(x y:D):Option D:=(x0u x y).map fun b=>.bl (!b)
def rEqD(K:aa):R2:=fun x y H Q=>∃B dx dy,Rep K H B dx x∧Rep K H B dy y∧okP dx=true∧okP dy=true∧Q (.bl (PyData.eqv (toP dx) (toP dy))) H
def rNeD(K:aa):R2:=fun x y H Q=>∃B dx dy,Rep K H B dx x∧Rep K H B dy y∧okP dx=true∧okP dy=true∧Q (.bl (!PyData.eqv (toP dx) (toP dy))) H
theorem z0q{d:D}(h:okP d=true):(toP d).canLay0=true∧(toP d).depth≤60:=by
 unfold okP at h
 rw[aA,decide_eq_true_eq]at h
 exact h
section
variable{X:Cx}
theorem x3y(hu:X.A.units+64<fw):OpR X (fb .Eq) (rEqD X.K):=by
 intro pins s σ H x y v u Q I rx ry h
 obtain⟨B,dx,dy,r1,r2,o1,o2,q⟩:=h
 obtain⟨as,ra⟩:=z0R I dx (z0q o1).1 r1 rx
 obtain⟨bs,rb⟩:=z0R I dy (z0q o2).1 r2 ry
 exact compareEq_reads ra rb (z0q o1).1 (z0q o2).1 (by have:=(z0q o1).2;omega) ⟨.bl _,H,I,rfl,q⟩
theorem x2W(hu:X.A.units+64<fw):OpR X (fb .NotEq) (rNeD X.K):=by
 intro pins s σ H x y v u Q I rx ry h
 obtain⟨B,dx,dy,r1,r2,o1,o2,q⟩:=h
 obtain⟨as,ra⟩:=z0R I dx (z0q o1).1 r1 rx
 obtain⟨bs,rb⟩:=z0R I dy (z0q o2).1 r2 ry
 exact compareNe_reads ra rb (z0q o1).1 (z0q o2).1 (by have:=(z0q o1).2;omega) ⟨.bl _,H,I,rfl,q⟩
theorem o2_eq{K:aa}:Op2 K (rEqD K) eqD:=by
 intro H B dx dy d x y Q hB hx hy q k
 unfold eqD at q
 split at q
 ·rename_i h
  rw[aA]at h
  cases q
  exact⟨B,dx,dy,hx,hy,h.1,h.2,k _ H (.refl H) rfl⟩
 ·cases q
theorem o2_ne{K:aa}:Op2 K (rNeD K) neD:=by
 intro H B dx dy d x y Q hB hx hy q k
 unfold neD at q
 split at q
 ·rename_i h
  rw[aA]at h
  cases q
  exact⟨B,dx,dy,hx,hy,h.1,h.2,k _ H (.refl H) rfl⟩
 ·cases q
theorem z4D(p:PyData->Bool):∀ds:List D,(y1M ds).any p=ds.any fun y=>p (toP y)
 |[]=>rfl
 |d::ds=>by unfold y1M;rw[cP,cP,z4D p ds]
def rInD(K:aa)(neg:Bool):R2:=fun x y H Q=>∃B dx dy b,Rep K H B dx x∧Rep K H B dy y∧x0u dx dy=some b∧Q (.bl (if neg then !b else b)) H
theorem x3A(hu:X.A.units+64<fw):OpR X (fb .In) (rInD X.K false):=by
 intro pins s σ H x y v u Q I rx ry h
 obtain⟨B,dx,dy,b,r1,r2,o,q⟩:=h
 unfold x0u at o
 split at o
 ·split at o
  ·rename_i ds h
   rw[aA]at h
   cases o
   obtain⟨as,ra⟩:=z0R I dx (z0q h.1).1 r1 rx
   obtain⟨bs,rb⟩:=z0R I _ (z0q h.2).1 r2 ry
   have hc:=(z0q h.2).1
   unfold toP at rb hc
   unfold PyData.canLay0 at hc
   refine in_list_reads rb ra hc (z0q h.1).1 (by have:=(z0q h.1).2;omega) ?_
   rw[z4D]
   exact⟨.bl _,H,I,rfl,q⟩
  ·cases o
 ·split at o
  ·rename_i ds h
   rw[aA]at h
   cases o
   obtain⟨as,ra⟩:=z0R I dx (z0q h.1).1 r1 rx
   obtain⟨bs,rb⟩:=z0R I _ (z0q h.2).1 r2 ry
   have hc:=(z0q h.2).1
   unfold toP at rb hc
   unfold PyData.canLay0 at hc
   refine in_tuple_reads rb ra hc (z0q h.1).1 (by have:=(z0q h.1).2;omega) ?_
   rw[z4D]
   exact⟨.bl _,H,I,rfl,q⟩
  ·cases o
 ·cases o
theorem op_ninD(hu:X.A.units+64<fw):OpR X (fb .NotIn) (rInD X.K true):=by
 intro pins s σ H x y v u Q I rx ry h
 obtain⟨B,dx,dy,b,r1,r2,o,q⟩:=h
 unfold x0u at o
 split at o
 ·split at o
  ·rename_i ds h
   rw[aA]at h
   cases o
   obtain⟨as,ra⟩:=z0R I dx (z0q h.1).1 r1 rx
   obtain⟨bs,rb⟩:=z0R I _ (z0q h.2).1 r2 ry
   have hc:=(z0q h.2).1
   unfold toP at rb hc
   unfold PyData.canLay0 at hc
   refine notIn_list_reads rb ra hc (z0q h.1).1 (by have:=(z0q h.1).2;omega) ?_
   rw[z4D]
   exact⟨.bl _,H,I,rfl,q⟩
  ·cases o
 ·split at o
  ·rename_i ds h
   rw[aA]at h
   cases o
   obtain⟨as,ra⟩:=z0R I dx (z0q h.1).1 r1 rx
   obtain⟨bs,rb⟩:=z0R I _ (z0q h.2).1 r2 ry
   have hc:=(z0q h.2).1
   unfold toP at rb hc
   unfold PyData.canLay0 at hc
   refine notIn_tuple_reads rb ra hc (z0q h.1).1 (by have:=(z0q h.1).2;omega) ?_
   rw[z4D]
   exact⟨.bl _,H,I,rfl,q⟩
  ·cases o
 ·cases o
theorem o2_in{K:aa}:Op2 K (rInD K false) inD:=by
 intro H B dx dy d x y Q hB hx hy q k
 unfold inD at q
 cases e:x0u dx dy with
 |none=>rw[e]at q;cases q
 |some b=>
  rw[e]at q
  cases q
  exact⟨B,dx,dy,b,hx,hy,e,k _ H (.refl H) rfl⟩
theorem o2_nin{K:aa}:Op2 K (rInD K true) ninD:=by
 intro H B dx dy d x y Q hB hx hy q k
 unfold ninD at q
 cases e:x0u dx dy with
 |none=>rw[e]at q;cases q
 |some b=>
  rw[e]at q
  cases q
  exact⟨B,dx,dy,b,hx,hy,e,k _ H (.refl H) rfl⟩
def OpA(K:aa)(r:List V->Hp->VK->Prop)(F:List D->Option D):Prop:=∀(H:Hp) (B:Addr->Prop) (ds:List D) (d:D) (vs:List V) (Q:VK),InB B H->Reps K H B ds vs->F ds=some d->(∀v H',Same H H'->Rep K H' B d v->Q v H')->r vs H Q
def OpL(K:aa)(r:List V->Hp->VK->Prop)(F:List D->Option (List D)):Prop:=∀(H:Hp) (B:Addr->Prop) (ds es:List D) (vs:List V) (Q:VK),InB B H->Reps K H B ds vs->F ds=some es →
 (∀a xs H',Same H H'->H a=none->H' a=some (.lst xs)->Reps K H' B es xs->Q (.ref a) H')->r vs H Q
def y1E(F:List D->Option (List D))(fl:List DE):DS->Option (List D):=fun δ=>(z0m fl δ).bind F
variable{x:Str}{bid T:String}{r:List V->Hp->VK->Prop}{e:Expr}{es:List Expr}{p pos:Pos}{fl:List DE}
theorem callA{F:List D->Option D}(ho:OpA X.K r F)(σ:St)(H:Hp)(Q:VK)(h:tD X.K (z0k F fl) σ H Q):tCB r (tDs X.K (z0m fl)) σ H Q:=by
 obtain⟨B,δ,d,hB,S,q,k⟩:=h
 obtain⟨ds,e1,e2⟩:=z5l q
 exact⟨B,δ,ds,hB,S,e1,fun vs H1 s1 r1=>ho H1 B ds d vs Q (hB.mono s1) r1 e2 fun v H' s' rv=>k v H' (s1.trans s') rv⟩
theorem callL{F:List D->Option (List D)}(ho:OpL X.K r F)(σ:St)(H:Hp)(Q:VK)(h:tF X.K (y1E F fl) σ H Q):tCB r (tDs X.K (z0m fl)) σ H Q:=by
 obtain⟨B,δ,d,hB,S,q,k⟩:=h
 unfold y1E at q
 cases e1:z0m fl δ with
 |none=>rw[e1]at q;cases q
 |some ds=>
  rw[e1]at q
  exact⟨B,δ,ds,hB,S,e1,fun vs H1 s1 r1=>ho H1 B ds d vs Q (hB.mono s1) r1 q fun a xs H' s' hn ha rv=>k a xs H' (s1.trans s') (s1.free hn) ha rv⟩
theorem z2O{F:List D->Option D}(hc:z4a X (.builtin bid) r)(hD:OpA X.K r F)(hg:Gl X x)(hm:X.mg x=none)(hv:fo x=some (.builtin bid))(ha:PAD X (e::es) fl)(hn:x ≠ "__name__" := by decide)(hdb:(x==("__debug__" : Str))=false:=by decide)
  (he:starEach (e::es) X.env=(false,eval e X.env)::starEach es X.env:=by rfl) (hpl:(e9 pos (starEach es X.env)).any (·.1)=false:=by rfl):PD X (.Call (.Name x p) (e::es) [] pos) (z0k F fl):=
 (z8Y hc hg hm hv ha hn hdb he hpl).imp (callA hD)
theorem x0m{F:List D->Option D}(hc:z4a X (.type T) r)(hD:OpA X.K r F)(hg:Gl X x)(hm:X.mg x=none)(hv:fo x=some (.type T))(ha:PAD X (e::es) fl)(hn:x ≠ "__name__" := by decide)(hdb:(x==("__debug__" : Str))=false:=by decide)
  (he:starEach (e::es) X.env=(false,eval e X.env)::starEach es X.env:=by rfl) (hpl:(e9 pos (starEach es X.env)).any (·.1)=false:=by rfl):PD X (.Call (.Name x p) (e::es) [] pos) (z0k F fl):=
 (z6x hc hg hm hv ha hn hdb he hpl).imp (callA hD)
theorem z4G{K:aa}{H:Hp}{B:Addr->Prop}{d:D}{vs:List V}(h:Reps K H B [d] vs):∃v,vs=[v]∧Rep K H B d v:=by
 unfold Reps at h
 obtain⟨x,r,rfl,h1,h2⟩:=h
 unfold Reps at h2
 subst h2
 exact⟨x,rfl,h1⟩
def z2g:List D->Option D
 |[.lst ds]=>some (.int ds.length)
 |[.tup ds]=>some (.int ds.length)
 |[.scr ns]=>some (.int ns.length)
 |_=>none
theorem oa_len{K:aa}:OpA K (fun xs H Q=>∃x n,xs=[x]∧LenV K x H n∧Q (.int n) H) z2g:=by
 intro H B ds d vs Q hB hr q k
 unfold z2g at q
 split at q
 ·cases q
  obtain⟨v,rfl,r⟩:=z4G hr
  unfold Rep at r
  obtain⟨a,xs,rfl,_,h,rs⟩:=r
  refine⟨.ref a,xs.length,rfl,.inl ⟨xs,SqL.of h,rfl⟩,k _ H (.refl H) ?_⟩
  show V.int _=V.int _
  rw[rs.length]
 ·cases q
  obtain⟨v,rfl,r⟩:=z4G hr
  unfold Rep at r
  obtain⟨a,xs,rfl,h,rs⟩:=r
  refine⟨.ref a,xs.length,rfl,.inr ⟨xs,h,rfl⟩,k _ H (.refl H) ?_⟩
  show V.int _=V.int _
  rw[rs.length]
 ·cases q
  obtain⟨v,rfl,r⟩:=z4G hr
  unfold Rep at r
  obtain⟨a,rfl,h⟩:=r
  exact⟨.ref a,_,rfl,.inl ⟨_,h.sq,(ah ..).symm⟩,k _ H (.refl H) rfl⟩
 ·cases q
theorem z0O{f:DE}(hg:Gl X "len")(hm:X.mg "len" = none)(h:PD X e f)(he:starEach [e] X.env=[(false,eval e X.env)]:=by rfl):PD X (.Call (.Name "len" p) [e] [] pos) (z0k z2g [f]):=
 z2O x0G oa_len hg hm PySem.boot_len (z0a h z0b he) (by decide) (by decide) he rfl
def z5X:List D->Option (List Bool)
 |[]=>some []
 |.bl b::r=>(z5X r).map (b :: ·)
 |_=>none
def z2w:List D->Option (List Int)
 |[]=>some []
 |.int i::r=>(z2w r).map (i :: ·)
 |_=>none
theorem z5A{K:aa}{H:Hp}{B:Addr->Prop}:∀{ds:List D} {bs:List Bool} {xs:List V},z5X ds=some bs->Reps K H B ds xs->xs=bs.map V.bl
 |[],_,_,e,h=>by cases e;unfold Reps at h;exact h
 |.bl b::r,bs,xs,e,h=>by
  unfold z5X at e
  cases q:z5X r with
  |none=>rw[q]at e;cases e
  |some cs=>
   rw[q]at e
   cases e
   unfold Reps at h
   obtain⟨x,r',rfl,h1,h2⟩:=h
   rw[z5A q h2,show x=V.bl b from h1]
   rfl
 |.non::_,_,_,e,_=>nomatch e
 |.int _::_,_,_,e,_=>nomatch e
 |.str _::_,_,_,e,_=>nomatch e
 |.lst _::_,_,_,e,_=>nomatch e
 |.tup _::_,_,_,e,_=>nomatch e
 |.dct _ _::_,_,_,e,_=>nomatch e
 |.exc _::_,_,_,e,_=>nomatch e
 |.obj _ _ _ _::_,_,_,e,_=>nomatch e
 |.cel _ _::_,_,_,e,_=>nomatch e
 |.scr _::_,_,_,e,_=>nomatch e
theorem z4P{K:aa}{H:Hp}{B:Addr->Prop}:∀{ds:List D} {bs:List Int} {xs:List V},z2w ds=some bs->Reps K H B ds xs->xs=bs.map V.int
 |[],_,_,e,h=>by cases e;unfold Reps at h;exact h
 |.int b::r,bs,xs,e,h=>by
  unfold z2w at e
  cases q:z2w r with
  |none=>rw[q]at e;cases e
  |some cs=>
   rw[q]at e
   cases e
   unfold Reps at h
   obtain⟨x,r',rfl,h1,h2⟩:=h
   rw[z4P q h2,show x=V.int b from h1]
   rfl
 |.non::_,_,_,e,_=>nomatch e
 |.bl _::_,_,_,e,_=>nomatch e
 |.str _::_,_,_,e,_=>nomatch e
 |.lst _::_,_,_,e,_=>nomatch e
 |.tup _::_,_,_,e,_=>nomatch e
 |.dct _ _::_,_,_,e,_=>nomatch e
 |.exc _::_,_,_,e,_=>nomatch e
 |.obj _ _ _ _::_,_,_,e,_=>nomatch e
 |.cel _ _::_,_,_,e,_=>nomatch e
 |.scr _::_,_,_,e,_=>nomatch e
theorem z8s:∀{bs:List Bool} {us:List Value},Vals (bs.map V.bl) us->PyProof.Rows.LSm.BoolsAre us bs
 |[],_,.nil=>.nil
 |b::bs,_,.cons r t=>by
  cases r
  exact .cons b (z8s t)
theorem x0a(hc:X.calm=true):z4a X (.builtin "all") (fun xs H Q=>∃(p:Addr) (bs:List Bool),xs=[.ref p]∧SqL X.K H p (bs.map V.bl)∧Q (.bl (bs.all (fun b=>b))) H):=by
 intro pins s σ H xs us Q I r h
 obtain⟨p,bs,rfl,hq,q⟩:=h
 obtain⟨u,rfl,ru⟩:=z7v r
 cases ru
 obtain⟨its,rv,pl,hz⟩:=I.list hq
 have hl:=pl.isList
 have hb:=z8s rv
 have hlt:p<s.heap.objs.size:=by obtain⟨_,e,_⟩:=hl;exact Heap.lt_size e
 refine call_all_walk (wpAny_pyIter_list hl ?_)
 refine⟨s.heap.objs.size,[s.heap.objs.size,p],[s.heap.objs.size],its.toArray.size,_,_,fun i=>(bs[i]?).getD true,rfl,Walks.list (A:=X.A.in1) (I.ok.hd hc) _ p (aG hlt) its.toArray,
  ⟨⟨_,Heap.get?_push_size _ rfl,rfl,rfl⟩,hl.push _⟩,fun i v s' Q' E' hP hQ=>?_,fun h' tk hk=>?_⟩
 ·obtain⟨b,e,rfl⟩:=hb.get i v (by simpa using hP)
  simp only[e,eN]at hQ
  exact wpAny_truthy_bool hQ
 ·have e:((ad its.toArray.size).all fun i=>(bs[i]?).getD true)=bs.all (fun b=>b):=by
   rw[au,hb.length];exact LSm.range_all bs
  rw[e]
  exact⟨.bl _,H,I.kept (LSm.kept_iter hk),rfl,q⟩
theorem y7v(hc:X.calm=true):z4a X (.builtin "any") (fun xs H Q=>∃(p:Addr) (bs:List Bool),xs=[.ref p]∧SqL X.K H p (bs.map V.bl)∧Q (.bl (bs.any (fun b=>b))) H):=by
 intro pins s σ H xs us Q I r h
 obtain⟨p,bs,rfl,hq,q⟩:=h
 obtain⟨u,rfl,ru⟩:=z7v r
 cases ru
 obtain⟨its,rv,pl,hz⟩:=I.list hq
 have hl:=pl.isList
 have hb:=z8s rv
 have hlt:p<s.heap.objs.size:=by obtain⟨_,e,_⟩:=hl;exact Heap.lt_size e
 refine call_any_walk (wpAny_pyIter_list hl ?_)
 refine⟨s.heap.objs.size,[s.heap.objs.size,p],[s.heap.objs.size],its.toArray.size,_,_,fun i=>(bs[i]?).getD false,rfl,Walks.list (A:=X.A.in1) (I.ok.hd hc) _ p (aG hlt) its.toArray,
  ⟨⟨_,Heap.get?_push_size _ rfl,rfl,rfl⟩,hl.push _⟩,fun i v s' Q' E' hP hQ=>?_,fun h' tk hk=>?_⟩
 ·obtain⟨b,e,rfl⟩:=hb.get i v (by simpa using hP)
  simp only[e,eN]at hQ
  exact wpAny_truthy_bool hQ
 ·have e:((ad its.toArray.size).any fun i=>(bs[i]?).getD false)=bs.any (fun b=>b):=by
   rw[au,hb.length];exact LSm.range_any bs
  rw[e]
  exact⟨.bl _,H,I.kept (LSm.kept_iter hk),rfl,q⟩
theorem y6q(hc:X.calm=true):z4a X (.builtin "sum") (fun xs H Q=>∃(p:Addr) (ns:List Int),xs=[.ref p]∧SqL X.K H p (ns.map V.int)∧Q (.int ns.sum) H):=by
 intro pins s σ H xs us Q I r h
 obtain⟨p,ns,rfl,hq,q⟩:=h
 obtain⟨u,rfl,ru⟩:=z7v r
 cases ru
 obtain⟨its,rv,pl,hz⟩:=I.list hq
 have hi:=z5G rv
 obtain⟨xs,hx⟩:=hi.allInts.items
 have hl':s.heap.IsList p (intItems xs):=hx ▸ pl.isList
 refine sum_intListG (I.ok.hd hc) hl' fun h' tk t' hk=>?_
 have e1:ns=xs.toList.map (·.1):=by
  rw[←nums_intItems,←hx]
  exact(show numsOf its.toArray.toList=ns from hi.numsOf).symm
 have e2:preSum (numAt xs) xs.size=ns.sum:=by
  rw[preSum_eq,cS (by simp),e1]
 rw[e2]
 exact⟨.int _,H,I.kept hk,⟨_,rfl⟩,q⟩
def allF:List D->Option D
 |[.lst ds]=>(z5X ds).map fun bs=>.bl (bs.all (fun b=>b))
 |_=>none
def anyF:List D->Option D
 |[.lst ds]=>(z5X ds).map fun bs=>.bl (bs.any (fun b=>b))
 |_=>none
def sumF:List D->Option D
 |[.lst ds]=>(z2w ds).map fun ns=>.int ns.sum
 |_=>none
theorem oa_all{K:aa}:OpA K (fun xs H Q=>∃(p:Addr) (bs:List Bool),xs=[.ref p]∧SqL K H p (bs.map V.bl)∧Q (.bl (bs.all (fun b=>b))) H) allF:=by
 intro H B ds d vs Q hB hr q k
 unfold allF at q
 split at q
 ·rename_i es
  cases e:z5X es with
  |none=>rw[e]at q;cases q
  |some bs=>
   rw[e]at q
   cases q
   obtain⟨v,rfl,r⟩:=z4G hr
   unfold Rep at r
   obtain⟨a,xs,rfl,_,h,rs⟩:=r
   rw[z5A e rs]at h
   exact⟨a,bs,rfl,SqL.of h,k _ H (.refl H) rfl⟩
 ·cases q
theorem oa_any{K:aa}:OpA K (fun xs H Q=>∃(p:Addr) (bs:List Bool),xs=[.ref p]∧SqL K H p (bs.map V.bl)∧Q (.bl (bs.any (fun b=>b))) H) anyF:=by
 intro H B ds d vs Q hB hr q k
 unfold anyF at q
 split at q
 ·rename_i es
  cases e:z5X es with
  |none=>rw[e]at q;cases q
  |some bs=>
   rw[e]at q
   cases q
   obtain⟨v,rfl,r⟩:=z4G hr
   unfold Rep at r
   obtain⟨a,xs,rfl,_,h,rs⟩:=r
   rw[z5A e rs]at h
   exact⟨a,bs,rfl,SqL.of h,k _ H (.refl H) rfl⟩
 ·cases q
theorem oa_sum{K:aa}:OpA K (fun xs H Q=>∃(p:Addr) (ns:List Int),xs=[.ref p]∧SqL K H p (ns.map V.int)∧Q (.int ns.sum) H) sumF:=by
 intro H B ds d vs Q hB hr q k
 unfold sumF at q
 split at q
 ·rename_i es
  cases e:z2w es with
  |none=>rw[e]at q;cases q
  |some bs=>
   rw[e]at q
   cases q
   obtain⟨v,rfl,r⟩:=z4G hr
   unfold Rep at r
   obtain⟨a,xs,rfl,_,h,rs⟩:=r
   rw[z4P e rs]at h
   exact⟨a,bs,rfl,SqL.of h,k _ H (.refl H) rfl⟩
 ·cases q
theorem y8G{f:DE}(hc:X.calm=true)(hg:Gl X "all")(hm:X.mg "all" = none)(h:PD X e f)(he:starEach [e] X.env=[(false,eval e X.env)]:=by rfl):PD X (.Call (.Name "all" p) [e] [] pos) (z0k allF [f]):=
 z2O (x0a hc) oa_all hg hm PyProof.Rows.Boot.«all» (z0a h z0b he) (by decide) (by decide) he rfl
theorem pd_any{f:DE}(hc:X.calm=true)(hg:Gl X "any")(hm:X.mg "any" = none)(h:PD X e f)(he:starEach [e] X.env=[(false,eval e X.env)]:=by rfl):PD X (.Call (.Name "any" p) [e] [] pos) (z0k anyF [f]):=
 z2O (y7v hc) oa_any hg hm PyProof.Rows.Boot.«any» (z0a h z0b he) (by decide) (by decide) he rfl
theorem x2L{f:DE}(hc:X.calm=true)(hg:Gl X "sum")(hm:X.mg "sum" = none)(h:PD X e f)(he:starEach [e] X.env=[(false,eval e X.env)]:=by rfl):PD X (.Call (.Name "sum" p) [e] [] pos) (z0k sumF [f]):=
 z2O (y6q hc) oa_sum hg hm boot_sum (z0a h z0b he) (by decide) (by decide) he rfl
def tupF:List D->Option D
 |[.lst ds]=>some (.tup ds)
 |[.tup ds]=>some (.tup ds)
 |_=>none
theorem oa_tup{K:aa}:OpA K (fun xs H Q=>∃p ys,xs=[.ref p]∧((SqL K H p ys∧∀l,H l=none->Q (.ref l) (upd H l (.tup ys)))∨(SqT K H p ys∧Q (.ref p) H))) tupF:=by
 intro H B ds d vs Q hB hr q k
 unfold tupF at q
 split at q
 ·cases q
  obtain⟨v,rfl,r⟩:=z4G hr
  unfold Rep at r
  obtain⟨a,xs,rfl,_,h,rs⟩:=r
  exact⟨a,xs,rfl,.inl ⟨SqL.of h,fun l hl=>k _ _ (z0n hl) (by unfold Rep;exact⟨l,xs,rfl,SqT.of z0o,rs.mono (z0n hl)⟩)⟩⟩
 ·cases q
  obtain⟨v,rfl,r⟩:=z4G hr
  have r0:=r
  unfold Rep at r
  obtain⟨a,xs,rfl,h,rs⟩:=r
  exact⟨a,xs,rfl,.inr ⟨h,k _ _ (.refl H) r0⟩⟩
 ·cases q
theorem x2e{f:DE}(hg:Gl X "tuple")(hm:X.mg "tuple" = none)(h:PD X e f)(he:starEach [e] X.env=[(false,eval e X.env)]:=by rfl):PD X (.Call (.Name "tuple" p) [e] [] pos) (z0k tupF [f]):=
 x0m z9r oa_tup hg hm PyProof.Rows.Boot.«tuple» (z0a h z0b he) (by decide) (by decide) he rfl
end
end L2
namespace L2
open PySem PySem.Spec PyProof.Rows
def tyN:D->String
 |.non => "NoneType"
 |.bl _ => "bool"
 |.int _ => "int"
 |.str _ => "str"
 |.lst _ => "list"
 |.tup _ => "tuple"
 |.scr _ => "list"
 |.dct _ _ => "dict"
 |.exc _ => "object"
 |.obj _ _ _ _ => "object"
 |.cel _ _ => "list"
inductive IsT:String->Prop where
 |bool:IsT "bool" |int:IsT "int" |str:IsT "str" |list:IsT "list" |tuple:IsT "tuple" |dict:IsT "dict"
def isF(T:String)(d:D):Bool:=tyN d==T||(tyN d == "bool" && T == "int")
theorem kit_tt(K:aa){T:String}(h:IsT T)(d:D)(hd:∀x,d≠.exc x)(hd2:∀x a ks ds,d≠.obj x a ks ds):b9 K (.type (tyN d)) (.type T)=some (isF T d):=by
 cases h <;> cases d <;> first | kernel_rfl | exact absurd rfl (hd _) | exact absurd rfl (hd2 _ _ _ _)
section
variable{prog:dw}{w:eX}{A:Around}{E:Value->Shared->Prop}{K:aa}{x D:Addr}{ox:Obj}{s:Shared}
theorem y7n{Q:Option Value->Shared->Prop}(X:K.In s.heap)(I:cU s.heap x ox D none)(hga:aV K (.ref D) "__getattribute__" = some (some (.builtin "BaseException.__getattribute__")))(hgh:aV K (.ref D) "__getattr__" = some none)
  (hf:dg K D none "__class__" = some (.bind (.builtin "getset_descriptor.__get__") (.builtin "object.__class__"))) (hm:bG K D (.type "object")=some true) (hb:bG K D (.type "BaseException")=some true)
  (h:Q (some (.ref D)) { s with toks:=s.toks+1 }):wpAny (model prog w) A (getAttr? (.ref x) "__class__") Q E s:=by
 obtain⟨hp,gs,dr,tk,os⟩:=s
 have T0:=I.type (M:=model prog w)
 have T1:=d3 (M:=model prog w) X hga
 have T2:=d3 (M:=model prog w) X hgh
 have T3:=PySem.W.looks_find (M:=model prog w) X I hf
 have T4:=PySem.W.looks_mroIn (M:=model prog w) X hb
 have hne:(onTheHeap (Value.ref D)&&Value.builtin "BaseException.__getattribute__" == Value.builtin "object.__getattribute__")=false:=by
  have z:(Value.builtin "BaseException.__getattribute__" == Value.builtin "object.__getattribute__")=false:=by decide +kernel
  rw[z,Bool.and_false]
 unfold getAttr? getAttrBy?
 refine wpAny_bind (wpAny_mkText ?_)
 refine wpAny_bind (wpAny_attempt ?_)
 unfold getAttrBy
 refine wpAny_holding (wpAny_bind (T0.at ?_))
 refine wpAny_bind (T1.at ?_)
 dsimp only
 rw[hne,if_neg ak]
 unfold getAttrByItsOwn hookBefore
 rw[if_pos (show onTheHeap (Value.ref D)=true from rfl)]
 refine wpAny_bind (T2.at ?_)
 refine wpAny_bind (wpAny_attempt (wpAny_holding ?_))
 unfold callGetattribute boundAndCalled
 rw[dU,if_neg ak,F.excAttr_ValueError.ga.bind]
 refine wpAny_bind (wpAny_pure ?_)
 refine wpAny_call (codeAny_call_builtin F.excAttr_ValueError.ga.plain F.entry_bexc_ga ?_)
 have k1:builtinKind "BaseException.__getattribute__" = some .slot:=by decide +kernel
 have k2:splitId "BaseException.__getattribute__" = some ("BaseException", "__getattribute__"):=by decide +kernel
 simp only[checkBuiltinCall,k1,k2]
 have ha:=F.args_bexc_ga (.ref x) (.str "__class__" tk)
 have TI:PySem.W.Looks (model prog w) hp (isInstance (.ref x) (.type "BaseException")) true:=T0.andThen T4
 show wpAny _ _ (isInstance (.ref x) (.type "BaseException") >>= _) _ _ _
 refine wpAny_bind (TI.at ?_)
 rw[if_neg (by decide)]
 unfold argsOk at ha
 refine wpAny_of_eq (a:=()) ha ?_
 unfold Builtin.«object.__getattribute__»
 refine wpAny_bind (wpAny_of_eq (a:=(Value.ref x,[Value.str "__class__" tk])) rfl ?_)
 dsimp only
 refine wpAny_bind (wpAny_of_eq (a:=("__class__" : Str)) rfl ?_)
 refine wpAny_bind (T0.at ?_)
 refine wpAny_bind (T3.at ?_)
 show wpAny _ _ (holding [Value.builtin "object.__class__"] (call (.builtin "getset_descriptor.__get__") [.builtin "object.__class__",.ref x,.ref D]) >>= ret) _ _ _
 refine wpAny_bind (wpAny_holding (wpAny_call (PySem.W.class_get X I hm ?_)))
 refine wpAny_pure ?_
 exact PySem.W.handed_on rfl (wpAny_pure h)
end
theorem xcls_of{K:aa}{C:Addr}(h:y7W K C=true):aV K (.ref C) "__getattribute__" = some (some (.builtin "BaseException.__getattribute__"))∧aV K (.ref C) "__getattr__" = some none∧bG K C (.type "BaseException")=some true∧(dM K C).isSome=true ∧
  aV K (.ref C) "__class__" = some (some (.builtin "object.__class__"))∧bQ K (.builtin "object.__class__") "__get__" = some (some (.builtin "getset_descriptor.__get__"))∧cw K (.builtin "object.__class__")=some true∧bG K C (.type "object")=some true:=by
 unfold y7W at h
 simp only[aA,beq_iff_eq]at h
 exact⟨h.1.1.1.1.1.1.1.1,h.1.1.1.1.1.1.1.2,h.1.1.1.1.1.1.2,h.1.1.1.1.1.2,h.1.1.1.1.2,h.1.1.1.2,h.1.1.2,h.1.2⟩
theorem icls_of{K:aa}{C:Addr}{ks:List Str}(h:y5z K C ks=true):Cls K C∧aV K (.ref C) "__class__" = some (some (.builtin "object.__class__"))∧bQ K (.builtin "object.__class__") "__get__" = some (some (.builtin "getset_descriptor.__get__"))∧cw K (.builtin "object.__class__")=some true∧bG K C (.type "object")=some true ∧
  (["bool", "int", "str", "list", "tuple", "dict"].all fun T=>b9 K (.ref C) (.type T)==some false)=true∧∀f∈ks,NoAttr K C f:=by
 unfold y5z at h
 rw[ax,ax,ax,ax,ax,ax,ax,ax,ax]at h
 obtain⟨⟨⟨⟨⟨⟨⟨⟨⟨a1,a2⟩,a3⟩,a4⟩,a5⟩,a6⟩,a7⟩,a8⟩,a9⟩,a10⟩:=h
 rw[aJ]at a10
 exact⟨⟨a1,a2,a3,beq_iff_eq.mp a4⟩,beq_iff_eq.mp a5,beq_iff_eq.mp a6,beq_iff_eq.mp a7,beq_iff_eq.mp a8,a9,fun f hf=>beq_iff_eq.mp (a10 f hf)⟩
theorem x1t{K:aa}{x C:Addr}{ox:Obj}(h:y7W K C=true):PySem.W.KitX K (.ref x) (.ref C) (fun g=>cU g x ox C none):=by
 obtain⟨g1,g2,g3,h2,h3,h4,h5,h6⟩:=xcls_of h
 obtain⟨cd,hcd⟩:=bI.mp h2
 have hk:∃c d sl,K.lookup C=some ⟨c,d,.cls cd,sl⟩:=by
  unfold dM at hcd
  split at hcd
  ·cases hcd;exact⟨_,_,_,by assumption⟩
  ·cases hcd
 obtain⟨c0,d0,sl0,hk⟩:=hk
 have hf:dg K C none "__class__" = some (.bind (.builtin "getset_descriptor.__get__") (.builtin "object.__class__")):=by
  unfold dg
  rw[hcd,av,h3,av]
  simp[h4,h5]
 refine⟨fun _ _ _ I=>I.type,fun _ _ X _=>?_,fun g tp dd its n sl X ht=>?_,fun X I k=>?_⟩
 ·intro A' Q' E' s' kk q
  unfold isType loadHead
  exact wpAny_bind (wpAny_loadPart (kk _ _ (X _ _ hk)) (wpAny_pure q))
 ·cases hz:(Value.ref C==Value.ref tp)with
  |false=>rfl
  |true=>
   have e:C=tp:=Value.ref.inj (beq_iff_eq.mp hz)
   rw[←e]at ht
   have z:=(X _ _ hk).symm.trans ht
   cases z
 ·exact y7n X I g1 g2 hf h6 g3 k
theorem exc_at{X:Cx}{pins:List (Addr×Obj)}{σ:St}{H:Hp}{s:Shared}{a C:Addr}(I:Inv X pins σ H s)(h:H a=some (.ext (isX a C))):∃o,cU s.heap a o C none:=by
 obtain⟨⟨o,h1,h2,h3,h4⟩,_⟩:=(show ObjOk X.prog X.w H s.heap a (.ext (isX a C)) from I.hok a _ h)
 exact⟨o,h1,h2,h4,by rw[h3];trivial⟩
section
variable{X:Cx}{pins:List (Addr×Obj)}{σ:St}{H:Hp}{s:Shared}{B:Addr->Prop}{A:Around}{E:Value->Shared->Prop}{Q:Value->Shared->Prop}
theorem y5I{d:D}{v:V}{u:Value}{T:String}(I:Inv X pins σ H s)(r:Rep X.K H B d v)(rv:RelV v u)(hT:IsT T)(h:∀tk,Q (.bool (isF T d)) { s with toks:=tk }):wpAny (model X.prog X.w) A (call (.builtin "isinstance") [u,.type T]) Q E s:=by
 by_cases hd:∃x,d = .exc x
 ·obtain⟨x,rfl⟩:=hd
  unfold Rep at r
  obtain⟨a,C,rfl,_,hq,_,hx⟩:=r
  cases rv
  obtain⟨o,ie⟩:=exc_at I hq
  have e:b9 X.K (.ref C) (.type T)=some (isF T (.exc x)):=by
   have h6:=(ax.mp hx).2
   rw[aJ]at h6
   have h7:=beq_iff_eq.mp (h6 T (by cases hT <;> decide))
   rw[h7]
   cases hT <;> rfl
  exact bi (x1t hx) I.kIn ie e (fun z=>nomatch z) h
 have hd:∀x,d≠.exc x:=fun x z=>hd ⟨x,z⟩
 by_cases hd2:∃x a ks ds,d = .obj x a ks ds
 ·obtain⟨x,a,ks,ds,rfl⟩:=hd2
  unfold Rep at r
  obtain⟨C,dx,fs,_,hq,⟨rfl,_,hx,_⟩,_⟩:=r
  cases rv
  obtain⟨cl,h3,h4,h5,h6,h7,_⟩:=icls_of hx
  obtain⟨mA,O,_⟩:=ins_get I.hok hq
  obtain⟨od,J,_⟩:=O.look
  have e:b9 X.K (.ref C) (.type T)=some (isF T (.obj x a ks ds)):=by
   rw[aJ]at h7
   have h8:=beq_iff_eq.mp (h7 T (by cases hT <;> decide))
   rw[h8]
   cases hT <;> rfl
  exact bi (PySem.W.kitx_own (cl.get _) cl.hd h3 h4 h5 h6) I.kIn J e (fun z=>nomatch z) h
 have e:=kit_tt X.K hT d hd (fun x a ks ds z=>hd2 ⟨x,a,ks,ds,z⟩)
 cases d with
 |exc x=>exact absurd rfl (hd x)
 |obj x a ks ds=>exact absurd ⟨x,a,ks,ds,rfl⟩ hd2
 |non=>cases r;cases rv;exact bi PySem.W.kitx_none I.kIn True.intro e (fun z=>nomatch z) h
 |bl y=>cases r;cases rv;exact bi PySem.W.kitx_bool I.kIn True.intro e (fun z=>nomatch z) h
 |int i=>cases r;obtain⟨t,q⟩:=rv;cases q;exact bi PySem.W.kitx_int I.kIn True.intro e (fun z=>nomatch z) h
 |str y=>cases r;obtain⟨t,q⟩:=rv;cases q;exact bi PySem.W.kitx_str I.kIn True.intro e (fun z=>nomatch z) h
 |cel a ds=>
  unfold Rep at r
  obtain⟨xs,_,hq,rfl,_⟩:=r
  cases rv
  obtain⟨its,_,⟨o,n,e1,c,_⟩,_⟩:=I.list (SqL.of hq)
  exact bi c3 I.kIn ⟨o,e1,c⟩ e (fun z=>nomatch z) h
 |lst ds=>
  unfold Rep at r
  obtain⟨a,xs,rfl,_,hq,_⟩:=r
  cases rv
  obtain⟨its,_,⟨o,n,e1,c,_⟩,_⟩:=I.list (SqL.of hq)
  exact bi c3 I.kIn ⟨o,e1,c⟩ e (fun z=>nomatch z) h
 |tup ds=>
  unfold Rep at r
  obtain⟨a,xs,rfl,hq,_⟩:=r
  cases rv
  obtain⟨its,_,⟨o,e1,c,_⟩,_⟩:=I.tuple hq
  exact bi PySem.W.kitx_tuple I.kIn ⟨o,e1,c⟩ e (fun z=>nomatch z) h
 |scr ns=>
  unfold Rep at r
  obtain⟨a,rfl,hq⟩:=r
  cases rv
  obtain⟨its,_,⟨o,n,e1,c,_⟩,_⟩:=I.list hq.sq
  exact bi c3 I.kIn ⟨o,e1,c⟩ e (fun z=>nomatch z) h
 |dct ks ds=>
  unfold Rep at r
  obtain⟨a,kvs,rfl,_,ea,_⟩:=r
  cases rv
  obtain⟨_,_,vs,_,p⟩:=(show ObjOk X.prog X.w H s.heap a (.dK kvs) from I.hok a _ ea)
  obtain⟨o,es,ep,h1,h2,_⟩:=p
  exact bi PySem.W.kitx_dict I.kIn ⟨o,h1,h2.1⟩ e (fun z=>nomatch z) h
end
section
variable{X:Cx}{e:Expr}{p p2 pos:Pos}
def dIs(T:String)(f:DE):DE:=fun δ=>(f δ).map fun d=>.bl (isF T d)
theorem x0F{T:String}(hT:IsT T):z4a X (.builtin "isinstance") (fun xs H Q=>∃B d v,xs=[v,.ty T]∧Rep X.K H B d v∧Q (.bl (isF T d)) H):=by
 intro pins s σ H xs us Q I r h
 obtain⟨B,d,v,rfl,rv,q⟩:=h
 obtain⟨u,w',rfl,r1,r2⟩:=vals2 r
 cases r2
 exact y5I I rv r1 hT fun tk=>⟨.bl _,H,I.tok tk,rfl,q⟩
theorem pd_is{f:DE}{x:Str}{T:String}(hT:IsT T)(hb:fo x=some (.type T))(hx:Gl X x)(hmx:X.mg x=none)(hnx:x ≠ "__name__")(hdx:(x==("__debug__" : Str))=false)(hg:Gl X "isinstance")(hm:X.mg "isinstance" = none)(h:PD X e f)
  (he:starEach [e,.Name x p2] X.env=[(false,eval e X.env),(false,eval (.Name x p2) X.env)]:=by rfl) (he2:starEach [.Name x p2] X.env=[(false,eval (.Name x p2) X.env)]:=by rfl):PD X (.Call (.Name "isinstance" p) [e,.Name x p2] [] pos) (dIs T f):=
 (z8Y (x0F hT) hg hm boot_isinstance (z0S h (z0S (pe_bltn (v:=.ty T) hx hmx hb rfl hnx hdx) pa_nil he2) (by rw[he,he2])) (by decide) (by decide) (by rw[he,he2]) (by rw[he2];rfl)).imp fun σ H Q ⟨B,δ,d,hB,S,q,k⟩=>by
  unfold dIs at q
  cases e1:f δ with
  |none=>rw[e1]at q;cases q
  |some d'=>
   rw[e1]at q
   cases q
   exact⟨B,δ,d',hB,S,e1,fun v H1 s1 r1=>⟨B,d',v,rfl,r1,k _ H1 s1 rfl⟩⟩
theorem y7g{f:DE}(hx:Gl X "bool")(hmx:X.mg "bool" = none)(hg:Gl X "isinstance")(hm:X.mg "isinstance" = none)(h:PD X e f)(he:starEach [e,.Name "bool" p2] X.env=[(false,eval e X.env),(false,eval (.Name "bool" p2) X.env)]:=by rfl):
  PD X (.Call (.Name "isinstance" p) [e,.Name "bool" p2] [] pos) (dIs "bool" f):=pd_is .bool PyProof.Rows.Boot.«bool» hx hmx (by decide) (by decide) hg hm h he rfl
theorem x0y{f:DE}(hx:Gl X "int")(hmx:X.mg "int" = none)(hg:Gl X "isinstance")(hm:X.mg "isinstance" = none)(h:PD X e f)(he:starEach [e,.Name "int" p2] X.env=[(false,eval e X.env),(false,eval (.Name "int" p2) X.env)]:=by rfl):
  PD X (.Call (.Name "isinstance" p) [e,.Name "int" p2] [] pos) (dIs "int" f):=pd_is .int PyProof.Rows.Boot.«int» hx hmx (by decide) (by decide) hg hm h he rfl
end
def y4Z(i:Nat):Option SD->Option SD
 |some (.bo r d)=>if r=i then none else some (.bo r d)
 |o=>o
def z0y(i:Nat)(δ:SS):SS:=δ.map (y4Z i)
theorem z3W{i j:Nat}{δ:SS}{x:SD}(h:(z0y i δ)[j]? = some (some x)):δ[j]? = some (some x)∧∀d,x≠.bo i d:=by
 unfold z0y at h
 rw[aB]at h
 cases e:δ[j]? with
 |none=>rw[e]at h;cases h
 |some o=>
  rw[e]at h
  have h':y4Z i o=some x:=Option.some.inj h
  unfold y4Z at h'
  split at h'
  ·rename_i r d
   split at h'
   ·cases h'
   ·rename_i hr
    cases h'
    exact⟨rfl,fun d' z=>by cases z;exact hr rfl⟩
  ·rename_i hn
   subst h'
   exact⟨rfl,fun d z=>hn i d (by rw[z])⟩
section
variable{K:aa}{H0 H:Hp}{B0:Addr->Prop}{σ:St}{δ:SS}{R:Nat->List Addr}
theorem RS.rewrite{Hold:Hp}{i:Nat}{d d':D}{a:Addr}{o:HO}{v:V}{A':List Addr}(h:RS K H0 B0 Hold σ δ R)(e:Same Hold H)(hi:δ[i]? = some (some (.ow d)))(hv:σ[i]? = some (some v))(ha:a∈R i)(t:Tree K (upd H a o) d' v A')(nd:A'.Nodup)(sub:∀b∈A',b∈R i∨Hold b=none):
  RS K H0 B0 (upd H a o) σ ((z0y i δ).set i (some (.ow d'))) (y1P R i A')∧Stp R Hold (y1P R i A') (upd H a o):=by
 have hm:=h.mono e
 obtain⟨oa,ea,ma⟩:=hm.held i a ha
 have mH:Mut (H a):=by rw[ea];exact ma
 have mem:∀r b,b∈y1P R i A' r->b∈R r∨(r=i∧Hold b=none):=fun r b z=>by
  by_cases hr:r=i
  ·subst hr;rw[z0M]at z;exact(sub b z).imp id fun q=>⟨rfl,q⟩
  ·rw[z1n hr]at z;exact .inl z
 have kt:KeepI K H (upd H a o):=(Keep.upd (K:=K) (B:=fun x=>x=a) rfl mH).i
 have nh:∀r b,b∈R r->Hold b=none->False:=fun r b z q=>by
  obtain⟨u,q',_⟩:=h.held r b z
  rw[q]at q';cases q'
 refine⟨⟨fun b u q=>?_,h.inB,by simp[z0y,h.len],fun r b z=>?_,fun r b z=>?_,fun r s b z z'=>?_,fun j d2 z=>?_,fun j r2 d2 z=>?_,fun j d2 z=>?_⟩,⟨fun b u q n=>?_,fun r b z=>?_,fun b z=>?_⟩⟩
 ·have ne:b≠a:=fun z=>by subst z;rw[h.new i b ha]at q;cases q
  rw[z0t ne];exact hm.keep b u q
 ·rcases mem r b z with z | ⟨_,z⟩
  ·exact h.new r b z
  ·exact h.keep.free z
 ·by_cases hr:r=i
  ·subst hr;rw[z0M]at z;exact t.held d' b z
  ·rw[z1n hr]at z
   have ne:b≠a:=fun q=>hr (h.disj r i b z (q ▸ ha))
   rw[z0t ne];exact hm.held r b z
 ·rcases mem r b z with z | ⟨z1,z2⟩ <;> rcases mem s b z' with z' | ⟨z1',z2'⟩
  ·exact h.disj r s b z z'
  ·exact(nh r b z z2').elim
  ·exact(nh s b z' z2).elim
  ·rw[z1,z1']
 ·rcases z2f z with⟨rfl,q,_⟩ | ⟨hj,q⟩
  ·cases q
  ·obtain⟨q1,_⟩:=z3W q
   obtain⟨w,e1,r⟩:=h.sh j d2 q1
   have r2:=(Rep.wide (C:=fun b=>Hold b=none) (fun _ z=>z) d2 r).mono e
   refine⟨w,e1,Rep.anti ?_ d2 (Rep.keep (.upd (.inl (.inr ⟨i,ha⟩)) mH) d2 r2)⟩
   rintro b (z | ⟨r,z⟩)
   ·exact .inl (.inl z)
   ·rcases mem r b z with z | ⟨_,z⟩
    ·exact .inl (.inr ⟨r,z⟩)
    ·exact .inr z
 ·rcases z2f z with⟨rfl,q,_⟩ | ⟨hj,q⟩
  ·cases q
  ·obtain⟨q1,q2⟩:=z3W q
   have hr:i≠r2:=fun e=>q2 d2 (by rw[e])
   obtain⟨w,e1,r⟩:=h.bo j r2 d2 q1
   have r3:=(Rep.wide (C:=fun b=>Hold b=none) (fun _ z=>z) d2 r).mono e
   refine⟨w,e1,Rep.anti ?_ d2 (Rep.keep (.upd (.inl (.inr ⟨i,hr,ha⟩)) mH) d2 r3)⟩
   rintro b (z | ⟨s,hs,z⟩)
   ·exact .inl (.inl z)
   ·rcases mem s b z with z | ⟨_,z⟩
    ·exact .inl (.inr ⟨s,hs,z⟩)
    ·exact .inr z
 ·rcases z2f z with⟨rfl,q,_⟩ | ⟨hj,q⟩
  ·cases q
   rw[z0M]
   exact⟨v,hv,t,nd⟩
  ·obtain⟨q1,_⟩:=z3W q
   obtain⟨w,e1,t',nd'⟩:=hm.ow j d2 q1
   rw[z1n hj]
   refine⟨w,e1,Tree.keep kt d2 t' fun b hb u q=>?_,nd'⟩
   have ne:b≠a:=fun z=>by subst z;exact hj (h.disj j i b hb ha)
   rw[z0t ne];exact q
 ·have ne:b≠a:=fun z=>n i (z ▸ ha)
  rw[z0t ne];exact e b u q
 ·rcases mem r b z with z | ⟨_,z⟩
  ·exact .inl ⟨r,z⟩
  ·exact .inr z
 ·by_cases hb:b=a
  ·subst hb;rw[z0o]at z;cases z
  ·rw[z0t hb]at z;exact e.free z
theorem Trees.append:∀{ds es:List D} {xs ys:List V} {A C:List Addr},Trees K H ds xs A->Trees K H es ys C->Trees K H (ds++es) (xs++ys) (A++C)
 |[],_,_,_,_,_,h,h'=>by obtain⟨rfl,rfl⟩:=h;exact h'
 |d::ds,es,_,ys,_,C,h,h'=>by
  unfold Trees at h
  obtain⟨y,r,A1,A2,rfl,h1,h2,rfl⟩:=h
  exact(show Trees K H (d::(ds++es)) (y::(r++ys)) (A1++A2++C) by unfold Trees;exact⟨y,_,A1,A2++C,rfl,h1,Trees.append h2 h',aR _ _ _⟩)
theorem Trees.length:∀{ds:List D} {xs:List V} {A:List Addr},Trees K H ds xs A->ds.length=xs.length
 |[],_,_,h=>by obtain⟨rfl,_⟩:=h;rfl
 |d::ds,_,_,h=>by
  unfold Trees at h
  obtain⟨x,r,_,_,rfl,_,h2,_⟩:=h
  simp[Trees.length h2]
theorem RS.top{i:Nat}{ds:List D}(h:RS K H0 B0 H σ δ R)(hi:δ[i]? = some (some (.ow (.lst ds)))):∃a xs A,σ[i]? = some (some (.ref a))∧H a=some (.lst xs)∧Trees K H ds xs A∧R i=a::A∧(a::A).Nodup:=by
 obtain⟨v,e,t,nd⟩:=h.ow i _ hi
 unfold Tree at t
 obtain⟨a,xs,A,rfl,ha,ts,e2⟩:=t
 rw[e2]at nd
 exact⟨a,xs,A,e,ha,ts,e2,nd⟩
theorem RS.put0{Hold:Hp}{i:Nat}{ds ds':List D}{a:Addr}{xs':List V}{A A':List Addr}(h:RS K H0 B0 Hold σ δ R)(e:Same Hold H)(hi:δ[i]? = some (some (.ow (.lst ds))))(hv:σ[i]? = some (some (.ref a)))(hR:R i=a::A)(nd:(a::A).Nodup)
  (t:Trees K H ds' xs' A') (nd':A'.Nodup) (sub:∀b∈A',b∈A∨Hold b=none):RS K H0 B0 (upd H a (.lst xs')) σ ((z0y i δ).set i (some (.ow (.lst ds')))) (y1P R i (a::A'))∧Stp R Hold (y1P R i (a::A')) (upd H a (.lst xs')):=by
 have ha:a∈R i:=by rw[hR];exact af
 obtain⟨oa,ea,ma⟩:=h.held i a ha
 have nA:∀b∈A',b≠a:=fun b hb z=>by
  rcases sub b hb with q | q
  ·exact(aw.mp nd).1 (z ▸ q)
  ·rw[z,ea]at q;cases q
 have mH:Mut (H a):=by rw[e a oa ea];exact ma
 refine h.rewrite e hi hv ha ?_ (aw.mpr ⟨fun z=>nA a z rfl,nd'⟩) fun b hb=>?_
 ·unfold Tree
  refine⟨a,xs',A',rfl,z0o,Trees.keep (Keep.upd (K:=K) (B:=fun x=>x=a) rfl mH).i ds' t fun b hb o q=>?_,rfl⟩
  rw[z0t (nA b hb)];exact q
 ·rw[hR]
  rcases ao.mp hb with z | z
  ·rw[z];exact .inl af
  ·exact(sub b z).imp (ae _) id
end
instance{i j:Int}:Decidable (CDiv i j):=by unfold CDiv;infer_instance
instance{i j:Int}:Decidable (CPow i j):=by unfold CPow;infer_instance
instance{i j:Int}:Decidable (CMul i j):=by unfold CMul;infer_instance
def LM(K:aa)(r:V->List V->Hp->VK->Prop)(F:List D->List D->Option (List D)):Prop:=
 ∀(H:Hp) (a:Addr) (xs:List V) (ds args:List D) (vs:List V) (ds':List D) (Q:VK),H a=some (.lst xs)->ds.length=xs.length->Reps K H noB args vs->F ds args=some ds' →
  (∀(w:V) (xs':List V),(∀(H2:Hp) (A C:List Addr),Trees K H2 ds xs A->Trees K H2 args vs C->∃A',Trees K H2 ds' xs' A'∧((A++C).Nodup->A'.Nodup)∧∀b∈A',b∈A∨b∈C)->Q w (upd H a (.lst xs')))->r (.ref a) vs H Q
def appF:List D->List D->Option (List D):=fun ds args=>match args with
 |[d]=>if ds.length<sizeLine then some (ds++[d])else none
 |_=>none
theorem z7x{K:aa}:LM K y8D appF:=by
 intro H a xs ds args vs ds' Q ha hl hr q k
 unfold appF at q
 split at q
 ·rename_i d
  split at q
  ·rename_i hz
   cases q
   obtain⟨y,rfl,ry⟩:=z4G hr
   refine⟨a,xs,y,rfl,rfl,ha,by rw[←hl];exact hz,k _ _ fun H2 A C t tc=>⟨A++C,t.append tc,fun z=>z,fun b hb=>ar.mp hb⟩⟩
  ·cases q
 ·cases q
theorem Trees.erase{K:aa}{H:Hp}:∀{ds:List D} {xs:List V} {A:List Addr} (k:Nat),Trees K H ds xs A->∃A',Trees K H (ds.eraseIdx k) (xs.eraseIdx k) A'∧A'.Sublist A
 |[],_,_,_,h=>by
  obtain⟨rfl,rfl⟩:=h
  exact⟨[],⟨rfl,rfl⟩,List.Sublist.refl _⟩
 |d::ds,_,_,0,h=>by
  unfold Trees at h
  obtain⟨x,r,A1,A2,rfl,h1,h2,rfl⟩:=h
  exact⟨A2,h2,dY _ _⟩
 |d::ds,_,_,k+1,h=>by
  unfold Trees at h
  obtain⟨x,r,A1,A2,rfl,h1,h2,rfl⟩:=h
  obtain⟨A',t,sb⟩:=Trees.erase k h2
  refine⟨A1++A',?_,List.Sublist.append_left sb _⟩
  rw[d5,d5]
  unfold Trees
  exact⟨x,_,A1,A',rfl,h1,t,rfl⟩
section
variable{X:Cx}{H0:Hp}{B0:Addr->Prop}{fr:Bool}{RX:XR}{e e2:Expr}{es:List Expr}{pos ap cp:Pos}{x name:Str}{px:Pos}{bid:String}{r:V->List V->Hp->VK->Prop}{F:List D->List D->Option (List D)}{fl:List DE}
def m0(i:Nat)(F:List D->List D->Option (List D))(fl:List DE):SS->Option Out:=fun δ=>(z0m fl (z0A δ)).bind fun args=>if z2T args=true then(match δ[i]? with
 |some (some (.ow (.lst ds)))=>(F ds args).map fun ds'=>.nx ((z0y i δ).set i (some (.ow (.lst ds'))))
 |_=>none)else none
theorem m0_core{i:Nat}{to:TE}(hL:LM X.K r F)(hto:to=y5k i)(D:Ends)(σ:St)(H:Hp)(h:tS X.K H0 B0 fr RX (m0 i F fl) D σ H):tDrop (tBM X.K "list" r to (tDs X.K (z0m fl))) D σ H:=by
 subst hto
 obtain⟨δ,R,o,rs,q,k⟩:=h
 unfold m0 at q
 cases e1:z0m fl (z0A δ)with
 |none=>rw[e1]at q;cases q
 |some args=>
  rw[e1]at q
  have q:(if z2T args=true then(match δ[i]? with | some (some (.ow (.lst ds)))=>(F ds args).map fun ds'=>Out.nx ((z0y i δ).set i (some (.ow (.lst ds')))) | _=>none)else none)=some o:=q
  split at q
  case isFalse=>cases q
  case isTrue hi=>
  split at q
  case h_2=>cases q
  case h_1 ds ei=>
  cases e2:F ds args with
  |none=>rw[e2]at q;cases q
  |some ds'=>
   rw[e2]at q
   cases q
   obtain⟨a,xs,A,ev,ha,ts,eR,nd⟩:=rs.top ei
   refine⟨.ref a,ev,.inl ⟨rfl,xs,SqL.of ha⟩,noB,z0A δ,args,.no,rs.all,e1,fun vs H2 s2 r2=>?_⟩
   refine hL H2 a xs ds args vs ds' _ (s2 _ _ ha) ts.length r2 e2 fun w xs' up=>?_
   obtain⟨A',t',n',sub⟩:=up H2 A [] (ts.mono s2) (r2.immTree args hi)
   have P:=rs.put0 s2 ei ev eR nd t' (n' (by rw[aL];exact(aw.mp nd).2)) fun b hb=>(sub b hb).imp id (fun z=>nomatch z)
   exact k σ _ _ P.1 P.2
theorem s_m0{i:Nat}(slot:Slot "list" name bid)(hty:typeOf (.builtin bid)=pure (.type "method_descriptor"))(hm:MtM X bid r)(hL:LM X.K r F)(hx:PE X (.Name x px) (y5k i))(ha:PAD X (e::es) fl)
  (hbase:ff (.Name x px) name X.env (eval (.Name x px) X.env)=eval (.Name x px) X.env:=by rfl)
  (hfew:((e9 cp (starEach (e::es) X.env)).all (fun x=>!x.1)&&(backToKw cp (keywordEach [] X.env)).all (fun x=>x.1.isSome)&&decide ((e::es).length+([]:List fg).length+(if([]:List fg).isEmpty then 0 else 1)<30))=true:=by rfl)
  (hline:(ap.endLine==cp.line)=true:=by rfl) (hs:starEach (e::es) X.env=(false,eval e X.env)::starEach es X.env:=by rfl) (hplain:(e9 cp (starEach es X.env)).any (·.1)=false:=by rfl)
  (hsw:swapsWith (.Call (.Attribute (.Name x px) name ap) (e::es) [] cp) none pos.line X.env=pure false:=by rfl):
  PS X (.Expr (.Call (.Attribute (.Name x px) name ap) (e::es) [] cp) pos) (tS X.K H0 B0 fr RX (m0 i F fl)):=
 PS.imp (z8t (x0H PySem.F.plainAttrs_list slot hty hm hx ha hbase hfew hline hs hplain) hsw) (m0_core hL rfl)
def m1(i:Nat)(fk:DE)(F:List D->List D->Option (List D))(fl:List DE):SS->Option Out:=fun δ=>(fk (z0A δ)).bind fun dk=>match dk with
 |.int k=>(z0m fl (z0A δ)).bind fun args=>if z2T args=true then(match δ[i]? with
  |some (some (.ow (.lst ds)))=>(ixN ds.length k).bind fun j=>match ds[j]? with
   |some (.lst es)=>if z2T es=true then(F es args).bind fun es'=>if z2T es'=true then some (.nx ((z0y i δ).set i (some (.ow (.lst (ds.set j (.lst es')))))))else none else none
   |_=>none
  |_=>none)else none
 |_=>none
def st0(i:Nat)(fk fv:DE):SS->Option Out:=fun δ=>(fv (z0A δ)).bind fun d=>if d.imm=true then(fk (z0A δ)).bind fun dk=>(match dk,δ[i]? with
 |.int k,some (some (.ow (.lst ds)))=>(ixN ds.length k).map fun j=>.nx ((z0y i δ).set i (some (.ow (.lst (ds.set j d)))))
 |_,_=>none)else none
def st1(i:Nat)(fk fj fv:DE):SS->Option Out:=fun δ=>(fv (z0A δ)).bind fun d=>if d.imm=true then(fk (z0A δ)).bind fun dk=>(fj (z0A δ)).bind fun dj=>(match dk,dj,δ[i]? with
 |.int k,.int j,some (some (.ow (.lst ds)))=>(ixN ds.length k).bind fun k'=>(match ds[k']? with
  |some (.lst es)=>if z2T es=true then(ixN es.length j).map fun j'=>.nx ((z0y i δ).set i (some (.ow (.lst (ds.set k' (.lst (es.set j' d)))))))else none
  |_=>none)
 |_,_,_=>none)else none
end
theorem Trees.setI{K:aa}{H:Hp}{d:D}{y:V}(ty:Tree K H d y []):∀{ds:List D} {xs:List V} {A:List Addr} (j:Nat),Trees K H ds xs A->∃A',Trees K H (ds.set j d) (xs.set j y) A'∧A'.Sublist A
 |[],_,_,_,h=>by
  obtain⟨rfl,rfl⟩:=h
  exact⟨[],⟨rfl,rfl⟩,List.Sublist.refl _⟩
 |e::ds,_,_,0,h=>by
  unfold Trees at h
  obtain⟨x,r,A1,A2,rfl,h1,h2,rfl⟩:=h
  refine⟨A2,?_,dY _ _⟩
  rw[eP,eP]
  unfold Trees
  exact⟨y,r,[],A2,rfl,ty,h2,rfl⟩
 |e::ds,_,_,k+1,h=>by
  unfold Trees at h
  obtain⟨x,r,A1,A2,rfl,h1,h2,rfl⟩:=h
  obtain⟨A',t,sb⟩:=Trees.setI ty k h2
  refine⟨A1++A',?_,List.Sublist.append_left sb _⟩
  rw[eQ,eQ]
  unfold Trees
  exact⟨x,_,A1,A',rfl,h1,t,rfl⟩
section
variable{X:Cx}{H0:Hp}{B0:Addr->Prop}{fr:Bool}{RX:XR}{e ke:Expr}{pos:Pos}{x:Str}{px p2:Pos}
theorem s_st0{i:Nat}{fk fv:DE}(hx:PE X (.Name x px) (y5k i))(hk:PD X ke fk)(hv:PD X e fv)
  (ha:∀v,assign (.Subscript (.Name x px) ke p2) X.env v=(do
   let ov ←holding [v] (eval (.Name x px) X.env)
   let iv ←holding [v,ov] (eval ke X.env)
   standAt p2
   holding [v,ov,iv] (setItem ov iv v)
   release [v,ov,iv] []):=by intro _;rfl)
  (hs:swapsWithSole [.Subscript (.Name x px) ke p2] e pos.line X.env=pure false:=by rfl) (hw:swappedStores [.Subscript (.Name x px) ke p2] e X.env=pure none:=by rfl)
  (h1:(e7 [.Subscript (.Name x px) ke p2] X.env).map (·.2)=[assign (.Subscript (.Name x px) ke p2) X.env]:=by rfl):
  PS X (.Assign [.Subscript (.Name x px) ke p2] e pos) (tS X.K H0 B0 fr RX (st0 i fk fv)):=
 PS.imp (ps_asg hv (pg_sub hx hk x1Z ha) hs hw h1) fun D σ H ⟨δ,R,o,rs,q,kk⟩=>by
  unfold st0 at q
  cases e1:fv (z0A δ)with
  |none=>rw[e1]at q;cases q
  |some d=>
  rw[e1]at q
  have q:(if d.imm=true then(fk (z0A δ)).bind fun dk=>(match dk,δ[i]? with
   |.int k,some (some (.ow (.lst ds)))=>(ixN ds.length k).map fun j=>Out.nx ((z0y i δ).set i (some (.ow (.lst (ds.set j d)))))
   |_,_=>none)else none)=some o:=q
  split at q
  case isFalse=>cases q
  case isTrue hi=>
  cases e2:fk (z0A δ)with
  |none=>rw[e2]at q;cases q
  |some dk=>
  rw[e2]at q
  simp only[av]at q
  split at q
  case h_2=>cases q
  case h_1=>
  rename_i k ds ei
  cases ej:ixN ds.length k with
  |none=>rw[ej]at q;cases q
  |some j=>
  rw[ej]at q
  cases q
  obtain⟨a,xs,A,ev,ha',ts,eR,nd⟩:=rs.top ei
  refine⟨noB,z0A δ,d,.no,rs.all,e1,fun v H1 s1 r1=>⟨.ref a,ev,noB,z0A δ,.int k,.no,rs.all.mono s1,e2,fun v2 H2 s2 r2=>?_⟩⟩
  cases (show v2=V.int k from r2)
  refine⟨a,xs,k,j,rfl,rfl,s2 _ _ (s1 _ _ ha'),by rw[←ts.length];exact ej,?_⟩
  obtain⟨A',t',sb⟩:=Trees.setI ((r1.immTree d hi).mono s2) j (ts.mono (s1.trans s2))
  have P:=rs.put0 (s1.trans s2) ei ev eR nd t' ((aw.mp nd).2.sublist sb) fun b hb=>.inl (sb.subset hb)
  exact kk σ _ _ P.1 P.2
end
section
variable{X:Cx}{e a:Expr}{lo hi:Option Expr}{p2 pos:Pos}
def tO(K:aa)(f:DS->Option (Option Int)):TO:=fun σ H Q=>∃B δ o,InB B H∧RepS K H B σ δ∧f δ=some o∧∀H',Same H H'->Q o H'
abbrev POD(X:Cx)(e:Option Expr)(f:DS->Option (Option Int)):Prop:=PO X e (tO X.K f)
theorem PO.imp{eo:Option Expr}{t t':TO}(h:PO X eo t)(w:∀σ H Q,t' σ H Q->t σ H Q):PO X eo t':=fun pins s σ H Q I q=>h pins s σ H Q I (w σ H Q q)
def z3E:DS->Option (Option Int):=fun _=>some none
def z7l(f:DE):DS->Option (Option Int):=fun δ=>match f δ with
 |some (.int i)=>some (some i)
 |_=>none
theorem z3h:POD X none z3E:=po_none.imp fun σ H Q ⟨B,δ,o,hB,S,q,k⟩=>by
 cases q
 exact k H (.refl H)
theorem z1S{f:DE}(h:PD X e f):POD X (some e) (z7l f):=(po_some h).imp fun σ H Q ⟨B,δ,o,hB,S,q,k⟩=>by
 unfold z7l at q
 split at q
 ·rename_i i e1
  cases q
  exact⟨B,δ,.int i,hB,S,e1,fun v H' s r=>⟨i,r,k H' s⟩⟩
 ·cases q
def z4W(ds:List D)(lo hi:Option Int):List D:=(ds.drop (HT.sIx ds.length 0 lo)).take (HT.sIx ds.length ds.length hi - HT.sIx ds.length 0 lo)
def x1B(f:DE)(fl fh:DS->Option (Option Int)):DS->Option (List D):=fun δ=>match f δ with
 |some (.lst ds)=>(fl δ).bind fun lo=>(fh δ).map fun hi=>z4W ds lo hi
 |some (.scr ns)=>(fl δ).bind fun lo=>(fh δ).map fun hi=>z4W (ns.map .int) lo hi
 |_=>none
theorem z3U{f:DE}{fl fh:DS->Option (Option Int)}(he:PD X e f)(hl:POD X lo fl)(hh:POD X hi fh):PF X (.Subscript e (.Slice lo hi none p2) pos) (x1B f fl fh):=(y3f sl_list he hl hh).imp fun σ H Q ⟨B,δ,ds',hB,S,q,k⟩=>by
 unfold x1B at q
 have core:∀(d:D) (ds:List D),f δ=some d->((fl δ).bind fun lo=>(fh δ).map fun hi=>z4W ds lo hi)=some ds'->(∀v H1,Rep X.K H1 B d v->∃a xs,v = .ref a∧(∀H2,Same H1 H2->SqL X.K H2 a xs)∧Reps X.K H1 B ds xs) →
   tSl (rSlL X.K) (tD X.K f) (tO X.K fl) (tO X.K fh) σ H Q:=by
  intro d ds e1 q get
  cases e2:fl δ with
  |none=>rw[e2]at q;cases q
  |some l=>
  cases e3:fh δ with
  |none=>rw[e2,e3]at q;cases q
  |some u=>
  rw[e2,e3]at q
  cases q
  refine⟨B,δ,_,hB,S,e1,fun v H1 s1 r1=>⟨B,δ,l,hB.mono s1,S.mono s1,e2,fun H2 s2=>⟨B,δ,u,(hB.mono s1).mono s2,(S.mono s1).mono s2,e3,fun H3 s3=>?_⟩⟩⟩
  obtain⟨a,xs,rfl,hq,rs⟩:=get v H1 r1
  refine⟨a,xs,rfl,hq H3 (s2.trans s3),fun p hp=>?_⟩
  have sa:=z0n (o:=.lst (y5O xs l u)) hp
  refine k p _ _ (((s1.trans s2).trans s3).trans sa) ((s1.trans (s2.trans s3)).free hp) z0o ?_
  unfold z4W y5O
  rw[rs.length]
  exact((rs.drop _).take _).mono ((s2.trans s3).trans sa)
 split at q
 case h_3=>cases q
 case h_1 ds e1=>
  refine core _ ds e1 q fun v H1 r1=>?_
  unfold Rep at r1
  obtain⟨a,xs,rfl,_,hq,rs⟩:=r1
  exact⟨a,xs,rfl,fun H2 s2=>SqL.of (s2 _ _ hq),rs⟩
 case h_2 ns e1=>
  refine core _ (ns.map .int) e1 q fun v H1 r1=>?_
  unfold Rep at r1
  obtain⟨a,rfl,hq⟩:=r1
  exact⟨a,_,rfl,fun H2 s2=>(s2.sf hq).sq,z3N ns⟩
end
section
variable{X:Cx}{pos:Pos}{x:Str}{iter elt:Expr}{N':List Str}{sc:fu}{ifs:List Expr}{n:Nat}{px:Pos}{fi:DS->Option (List D)}{fc:DS->Option Bool}{fe:DE}
theorem x1O{σ:St}{H:Hp}{Q:VK}(hσ:σ.length=n)(hq:tN X.K (mkL (z0X fi fc fe)) σ H Q):y9c (tI X.K fi) (z3f n) (tT X.K fc) (tN X.K fe) 1 σ H Q:=by
 obtain⟨δ,d0,Sδ,q,k⟩:=hq
 unfold mkL at q
 cases eds:z0X fi fc fe δ with
 |none=>rw[eds]at q;cases q
 |some ds=>
 rw[eds]at q
 cases q
 unfold z0X at eds
 cases e1:fi δ with
 |none=>rw[e1]at eds;cases eds
 |some xs=>
 rw[e1]at eds
 have q1:(if xs.length≤sizeLine then z0Z (fun x=>(fc (δ++[some x])).bind fun k=>if k=true then(fe (δ++[some x])).map some else some none) xs else none)=some ds:=eds
 split at q1
 case isFalse=>cases q1
 case isTrue hsz=>
 refine⟨noB,δ,xs,.no,Sδ,e1,fun J H1 s1 itw=>fun Da hD=>?_⟩
 have hD0:H Da=none:=s1.free hD
 have it:=itw (fun a=>H1 a=none) fun a ha=>ha
 refine⟨fun i m σ' H'=>m=xs.length - i∧i≤xs.length∧(∃w,σ'=σ++[w])∧Same H1 H'∧∃ys dn rs A,H' Da=some (.lst ys)∧Trees X.K H' dn ys A∧(Da::A).Nodup∧(∀a∈A,H1 a=none)∧ds=dn++rs∧dn.length≤i ∧
  z0Z (fun x=>(fc (δ++[some x])).bind fun k=>if k=true then(fe (δ++[some x])).map some else some none) (xs.drop i)=some rs,
  ⟨xs.length,by simp,bJ _,⟨none,rfl⟩,z0n hD,[],[],ds,[],z0o,.nil,aw.mpr ⟨(fun z=>nomatch z),bc⟩,(fun a z=>nomatch z),rfl,aj _,q1⟩,?_⟩
 rintro i m σ' H' ⟨rfl,hi',⟨w,rfl⟩,sm,ys,dn,rs,A,hys,tys,nd,fr,hds,hln,hrs⟩
 have kp:Keep X.K (fun a=>noB a∨H1 a=none) H1 H':=.same sm
 by_cases hlt:i<xs.length
 ·refine .inr ⟨it.go i H' kp hlt,fun σ'' H''=>(i+1≤xs.length∧(∃w,σ''=σ++[w])∧Same H1 H''∧∃ys dn rs A,H'' Da=some (.lst ys)∧Trees X.K H'' dn ys A∧(Da::A).Nodup∧(∀a∈A,H1 a=none)∧ds=dn++rs∧dn.length≤i+1 ∧
   z0Z (fun x=>(fc (δ++[some x])).bind fun k=>if k=true then(fe (δ++[some x])).map some else some none) (xs.drop (i+1))=some rs),fun σ'' H'' h=>⟨xs.length - (i+1),by omega,rfl,h⟩,fun xv H2 hy=>?_⟩
  obtain⟨s2,d,hd,rd⟩:=it.yld i H' xv H2 kp hy
  have hdi:=hd hlt
  have hx:xs.drop i=d::xs.drop (i+1):=by
   obtain⟨hl,e⟩:=aP.mp hdi
   rw[aM hl,e]
  rw[hx]at hrs
  obtain⟨o,rs',e2,e3,e4⟩:=z5H hrs
  show tT X.K fc ((σ++[w]).set n (some xv)) H2 _
  rw[←hσ,z9I]
  have S2:RepS X.K H2 noB (σ++[some xv]) (δ++[some d]):=(((Sδ.mono s1).mono sm).mono s2).snoc (rd.anti fun a z=>z.elim)
  have hl2:ys.length<sizeLine:=by
   have:=tys.length
   omega
  cases ec:fc (δ++[some d])with
  |none=>rw[ec]at e2;cases e2
  |some kk=>
   rw[ec]at e2
   have e2':(if kk=true then(fe (δ++[some d])).map some else some none)=some o:=e2
   refine⟨noB,δ++[some d],kk,.no,S2,ec,fun H3 s3=>?_⟩
   cases kk with
   |false=>
    rw[if_neg ak]at e2'
    rw[if_neg ak]
    cases e2'
    exact⟨hlt,⟨_,rfl⟩,(sm.trans s2).trans s3,ys,dn,rs',A,s3 _ _ (s2 _ _ hys),(tys.mono s2).mono s3,nd,fr,by rw[hds,e4];rfl,di hln,e3⟩
   |true=>
    rw[if_pos rfl]at e2'
    rw[if_pos rfl]
    cases ey:fe (δ++[some d])with
    |none=>rw[ey]at e2';cases e2'
    |some y=>
     rw[ey]at e2'
     cases e2'
     refine⟨δ++[some d],y,S2.mono s3,ey,fun yv H5 A5 s5 t5 nd5 fr5=>⟨ys,s5 _ _ (s3 _ _ (s2 _ _ hys)),hl2,?_⟩⟩
     have s15:Same H' H5:=(s2.trans s3).trans s5
     have hu:H5 Da=some (.lst ys):=s15 _ _ hys
     have mu:Mut (H5 Da):=by rw[hu];exact trivial
     have hDa3:H3 Da=some (.lst ys):=s3 _ _ (s2 _ _ hys)
     have nDa:Da∉A++A5:=fun z=>by
      rcases ar.mp z with z | z
      ·exact(aw.mp nd).1 z
      ·have:=fr5 Da z
       rw[hDa3]at this;cases this
     refine⟨hlt,⟨_,rfl⟩,fun b u hb=>?_,ys++[yv],dn++[y],rs',A++A5,z0o,?_,aw.mpr ⟨nDa,?_⟩,fun a ha=>?_,by rw[hds,e4,aR];rfl,by rw[aC];simp;omega,e3⟩
     ·rw[z0t (z1e hb hD)]
      exact s15 _ _ (sm _ _ hb)
     ·refine Trees.keep (Keep.upd (K:=X.K) (B:=fun x=>x=Da) rfl mu).i _ ((tys.mono s15).snoc t5) fun b hb u q=>?_
      have ne:b≠Da:=fun z=>nDa (z ▸ hb)
      rw[z0t ne];exact q
     ·refine bT.mpr ⟨(aw.mp nd).2,nd5,fun b hb c hc z=>?_⟩
      subst z
      obtain⟨u,q,_⟩:=Trees.held _ tys b hb
      have:=fr5 b hc
      rw[(s2.trans s3) _ _ q]at this;cases this
     ·rcases ar.mp ha with z | z
      ·exact fr a z
      ·exact sm.free ((s2.trans s3).free (fr5 a z))
 ·have e:i=xs.length:=by omega
  subst e
  refine .inl ⟨it.stop _ H' kp (aj _),?_⟩
  rw[cv]at hrs
  cases hrs
  rw[aL]at hds
  subst hds
  refine k (.ref Da) H' (Da::A) (s1.trans sm) ?_ nd fun a ha=>?_
  ·unfold Tree
   exact⟨Da,ys,A,rfl,hys,tys,rfl⟩
  ·rcases ao.mp ha with z | z
   ·rw[z];exact hD0
   ·exact s1.free (fr a z)
theorem z5r(hc:X.calm=true)(S:CompScope X.N X.env.scope.names N' 1 sc)(hn:n=X.N.length)(hi:PID X (.Name x px) iter fi)
  (hg:∀s H fp pins E,PG (z0E X N' sc s H fp pins E) (.Name x px) (z3f n)) (ht:∀s H fp pins E,x0h (z0E X N' sc s H fp pins E) ifs (tT X.K fc)) (he:∀s H fp pins E,PE (z0E X N' sc s H fp pins E) elt (tN X.K fe))
  (hs:∀x,foldedSetIterable iter X.env x=pure x:=by intro _;rfl):PN X (.ListComp elt [⟨.Name x px,iter,ifs,0⟩] sc pos) (mkL (z0X fi fc fe)):=by
 intro pins s σ H Q I hq
 exact y2V hc S hi ⟨hg,ht,he⟩ hs pins s σ H Q I (x1O (by rw[hn,I.len]) hq)
end
section
variable{X:Cx}{a b:Expr}{pos:Pos}{f g:DE}
def y3L:D->D->Option D:=iop fun i j=>some (.int (i+j))
def x2z:D->D->Option D:=iop fun i j=>some (.int (i - j))
def x2O:D->D->Option D:=iop fun i j=>if CMul i j then some (.int (i*j))else none
def y5P:D->D->Option D:=iop fun i j=>if CDiv i j then some (.int (i / j))else none
def z4y:D->D->Option D:=iop fun i j=>if 0<j then some (.int (i % j))else none
def x1w:D->D->Option D:=iop fun i j=>if CPow i j then some (.int (i ^ j.toNat))else none
def ltI:D->D->Option D:=iop fun i j=>some (.bl (decide (i<j)))
def leI:D->D->Option D:=iop fun i j=>some (.bl (decide (i≤j)))
def gtI:D->D->Option D:=iop fun i j=>some (.bl (decide (j<i)))
theorem z3B(ha:PD X a f)(hb:PD X b g):PD X (.BinOp a .Add b pos) (d2 y3L f g):=y0k op_add y6z ha hb
theorem y0X(ha:PD X a f)(hb:PD X b g):PD X (.BinOp a .Sub b pos) (d2 x2z f g):=y0k op_sub y6z ha hb
theorem y6D(ha:PD X a f)(hb:PD X b g):PD X (.BinOp a .Mult b pos) (d2 x2O f g):=y0k op_mul z8l ha hb
theorem y1s(ha:PD X a f)(hb:PD X b g):PD X (.BinOp a .FloorDiv b pos) (d2 y5P f g):=y0k op_fdiv z8l ha hb
theorem z2G(ha:PD X a f)(hb:PD X b g):PD X (.BinOp a .Mod b pos) (d2 z4y f g):=y0k op_mod z8l ha hb
theorem y9C(ha:PD X a f)(hb:PD X b g):PD X (.BinOp a .Pow b pos) (d2 x1w f g):=y0k op_pow z8l ha hb
theorem pd_lt(ha:PD X a f)(hb:PD X b g):PD X (.Compare a [.Lt] [b] pos) (d2 ltI f g):=y0g op_lt z3V ha hb (z5R _)
theorem pd_gt(ha:PD X a f)(hb:PD X b g):PD X (.Compare a [.Gt] [b] pos) (d2 gtI f g):=y0g op_gt z3V ha hb (z5R _)
theorem pd_eq(hu:X.A.units+64<fw)(ha:PD X a f)(hb:PD X b g):PD X (.Compare a [.Eq] [b] pos) (d2 eqD f g):=y0g (x3y hu) o2_eq ha hb (z5R _)
theorem pd_ne(hu:X.A.units+64<fw)(ha:PD X a f)(hb:PD X b g):PD X (.Compare a [.NotEq] [b] pos) (d2 neD f g):=y0g (x2W hu) o2_ne ha hb (z5R _)
theorem pd_in(hu:X.A.units+64<fw)(ha:PD X a f)(hb:PD X b g)(hm:eZ .In b=false:=by rfl):PD X (.Compare a [.In] [b] pos) (d2 inD f g):=y0g (x3A hu) o2_in ha hb hm
theorem pt_lt(ha:PD X a f)(hb:PD X b g):PTD X (.Compare a [.Lt] [b] pos) (z0Q (d2 ltI f g)):=z5h op_lt z3V ha hb (z5R _)
theorem y6y(ha:PD X a f)(hb:PD X b g):PTD X (.Compare a [.Gt] [b] pos) (z0Q (d2 gtI f g)):=z5h op_gt z3V ha hb (z5R _)
theorem z7H(hu:X.A.units+64<fw)(ha:PD X a f)(hb:PD X b g):PTD X (.Compare a [.Eq] [b] pos) (z0Q (d2 eqD f g)):=z5h (x3y hu) o2_eq ha hb (z5R _)
theorem y9z(hu:X.A.units+64<fw)(ha:PD X a f)(hb:PD X b g):PTD X (.Compare a [.NotEq] [b] pos) (z0Q (d2 neD f g)):=z5h (x2W hu) o2_ne ha hb (z5R _)
theorem pt_in(hu:X.A.units+64<fw)(ha:PD X a f)(hb:PD X b g)(hm:eZ .In b=false:=by rfl):PTD X (.Compare a [.In] [b] pos) (z0Q (d2 inD f g)):=z5h (x3A hu) o2_in ha hb hm
theorem pt_nin(hu:X.A.units+64<fw)(ha:PD X a f)(hb:PD X b g)(hm:eZ .NotIn b=false:=by rfl):PTD X (.Compare a [.NotIn] [b] pos) (z0Q (d2 ninD f g)):=z5h (op_ninD hu) o2_nin ha hb hm
end
def y2U(H:Hp)(A:List Addr):Hp:=fun a=>if a∈A then none else H a
theorem y4k{H:Hp}{A:List Addr}{a:Addr}(h:a∈A):y2U H A a=none:=if_pos h
theorem z7f{H:Hp}{A:List Addr}{a:Addr}(h:a∉A):y2U H A a=H a:=if_neg h
theorem y5a{H:Hp}{A:List Addr}:Same (y2U H A) H:=fun a o e=>by
 by_cases h:a∈A
 ·rw[y4k h]at e;cases e
 ·rw[z7f h]at e;exact e
section
end
section
end
def x1I(K:aa)(F:List D->Option D):Sp:=fun vs H Q _=>∃(a:Addr) (ns:List Int),vs=[.ref a]∧SqF K H a (ns.map V.int)∧F [.scr ns]=some (.bl true)∧∀H',Q (.bl true) H'
theorem x1g{K:aa}{H:Hp}{a:Addr}{xs:List V}(hO:Only H)(h:SqL K H a xs):SqF K H a xs:=by
 rcases h with (h | h) | h
 ·rcases hO a with z | ⟨o,ys,z⟩ <;> (rw[h]at z;cases z)
 ·exact .inl h
 ·exact .inr h
theorem law_of{P:dw}{w:eX}{K:aa}{mg:Str->Option Value}{base:Heap}{k:Nat}{f:Addr}{fd:eY}{ps:List Str}{F:List D->Option D}(h:FnOk P w K mg base CX0 k f fd ps (spN K F)):FnOk P w K mg base CX0 k f fd ps (x1I K F):=by
 refine h.imp fun vs H Q E z=>?_
 obtain⟨a,ns,rfl,hq,e,q⟩:=z
 refine⟨[.scr ns],.bl true,.cons ?_ .nil,e,fun v H' A s t nd fr=>?_⟩
 ·unfold Rep
  exact⟨a,rfl,hq⟩
 ·cases (show v=V.bl true∧_ from t).1
  exact q H'
section
end
open PySem.MeetsSeq PySem.MeetsSeq2 PySem.MeetsSeq3 PySem.SeqRoads2 PySem.SeqAt
open PySem.AutoSeq1 (wpAny_loadPart')
theorem z6H{M:Model}{A:Around}{E:Value->Shared->Prop}{s:Shared}{β:Type}(f:Nat->β->Sem (ForInStep β))(I:List Nat->β->Shared->Prop)(Q:β->Shared->Prop)
  (turn:∀x rest b s,I (x::rest) b s->wpAny M A (f x b) (fun r s'=>match r with | .yield b'=>I rest b' s' | .done b'=>Q b' s') E s)
  (fin:∀b s,I [] b s->Q b s) (lo hi:Nat) (b:β) (h:I (ca lo (hi - lo)) b s):wpAny M A (forIn ([lo:hi]:Std.Legacy.Range) b f) Q E s:=by
 rw[Std.Legacy.Range.forIn_eq_forIn_range']
 have hsz:([lo:hi]:Std.Legacy.Range).size=hi - lo:=by simp[Std.Legacy.Range.size]
 show wpAny M A (forIn (ca lo ([lo:hi]:Std.Legacy.Range).size 1) b f) Q E s
 rw[hsz]
 exact wpAny_forIn_list f I Q turn fin _ b h
theorem z9a(l:Addr)(items:Array Value)(n:Nat)(dd:Option Addr)(sl:Array (Option Value))(x:Value)(e:Value->Bool)(j:Nat)(hj:j<items.size)(hit:e items[j]=true)(hno:∀m (hm:m<items.size),m<j->e items[m]=false):
  Meets (Builtin.«tuple.index» ⟨[.ref l,x],[]⟩)
   (fun A R s=>s.heap.get? l=some { cls:=.type "tuple",dict:=dd,data:=.seq items n,slots:=sl }∧(∀y,y∈items->EqAt A.in1 s y x (e y))∧R (.ok (.ret (.int j s.toks))) { s with toks:=s.toks+1 }):=
 .of_wp fun prog w A R s h=>by
  obtain⟨hp,g,d,tk,os⟩:=s;obtain⟨hl,he,h⟩:=h
  wp_walk using wpAny_loadPart' hl,z6H _ (fun rest b s'=>b.1=none∧s'=⟨hp,g,d,tk,os⟩∧∃i,i≤j∧rest=ca i (items.size - i)) _
  case turn=>
   rintro y rest b s' ⟨hb,rfl,i,hi,hr⟩
   have e1:items.size - i=(items.size - (i+1))+1:=by omega
   rw[e1,dm]at hr
   have h1:i=y:=(List.cons.inj hr).1.symm
   have h2:=(List.cons.inj hr).2
   subst h1
   have hlt:i<items.size:=by omega
   rw[Array.getElem?_eq_getElem hlt]
   refine wpAny_bind (he _ (Array.getElem_mem hlt) prog w _ _ ?_)
   by_cases hij:i=j
   ·subst hij
    rw[hit]
    wp_walk
    exact⟨_,rfl,h⟩
   ·rw[hno i hlt (by omega)]
    wp_walk
    exact⟨rfl,rfl,i+1,by omega,h2⟩
  case fin=>
   rintro⟨b1,b2⟩ s' ⟨hb,rfl,i,hi,hr⟩
   have:(ca i (items.size - i)).length=0:=by rw[←hr];rfl
   rw[List.length_range']at this
   omega
  case h=>
   exact⟨rfl,rfl,0,by omega,by simp⟩
section
variable{X:Cx}
theorem Inv.tupleO{pins:List (Addr×Obj)}{σ:St}{H:Hp}{s:Shared}{a:Addr}{xs:List V}(I:Inv X pins σ H s)(h:SqT X.K H a xs):∃(its:List Value) (ob:Obj) (n:Nat),Vals xs its∧s.heap.get? a=some ob∧ob.cls = .type "tuple" ∧ ob.dict=none∧ob.data = .seq its.toArray n∧xs.length≤sizeLine:=by
 rcases h with h | ⟨o,its,n,hk,hc,hs,hz,r⟩
 ·obtain⟨z,its,r,ob,e,c,n,hd⟩:=h.ok I.hok
  exact⟨its,ob,n,r,e,c.1,c.2,hd,z⟩
 ·refine⟨its.toList,o,n,r,I.kIn a o hk,hc.1,hc.2,by simpa using hs,?_⟩
  have e:=r.length
  simp only[bC]at e
  omega
def tTM(K:aa)(r:V->List V->Hp->VK->Prop)(to:TE)(t:TA):TE:=fun σ H Q=>to σ H fun x H1=>(∃a xs,x = .ref a∧SqT K H1 a xs)∧t σ H1 fun xs H2=>r x xs H2 Q
variable{o e:Expr}{es:List Expr}{to:TE}{t:TA}{name:Str}{apos cpos:Pos}{id:String}{r:V->List V->Hp->VK->Prop}
theorem pe_tm(slot:Slot "tuple" name id)(hty:typeOf (.builtin id)=pure (.type "method_descriptor"))(hm:MtR X id r)(ho:PE X o to)(ha:PA X (e::es) t)
  (hbase:ff o name X.env (eval o X.env)=eval o X.env:=by rfl)
  (hfew:((e9 cpos (starEach (e::es) X.env)).all (fun x=>!x.1)&&(backToKw cpos (keywordEach [] X.env)).all (fun x=>x.1.isSome)
   && decide ((e::es).length+([]:List fg).length+(if([]:List fg).isEmpty then 0 else 1)<30))=true:=by rfl)
  (hline:(apos.endLine==cpos.line)=true:=by rfl) (hs:starEach (e::es) X.env=(false,eval e X.env)::starEach es X.env:=by rfl) (hplain:(e9 cpos (starEach es X.env)).any (·.1)=false:=by rfl):
  PE X (.Call (.Attribute o name apos) (e::es) [] cpos) (tTM X.K r to t):=by
 intro pins s σ H Q I h
 refine wpAny_Call_method_late hbase hfew hline rfl (thn (ho pins s σ H _ I h) fun v s1 ⟨x,H1,I1,r1,⟨a,ys,ex,ty⟩,q1⟩=>?_)
 subst ex
 cases r1
 obtain⟨its,ob,n,_,e1,c1,d1,_⟩:=I1.tupleO ty
 refine⟨"tuple",id,PySem.F.plainAttrs_tuple,slot,hty,⟨ob,e1,c1⟩,fun a e=>(by cases e;exact⟨ob,e1,d1⟩),?_⟩
 have hA:=ha cpos pins s1 σ H1 _ I1 q1
 rw[hs]at hA ⊢
 refine Calls.callWith_builtin (by show(false||(e9 cpos (starEach es X.env)).any (·.1))=false;rw[hplain] <;> rfl) (Calls.evalArgs_plain ?_)
 exact thn hA fun us s2 ⟨vs,H2,I2,r2,q2⟩=>hm pins s2 σ H2 (.ref a) vs (.ref a) us Q I2 rfl r2 q2
def rTIx(K:aa):V->List V->Hp->VK->Prop:=fun x vs H Q=>∃(a:Addr) (ns:List Int) (i:Int) (j:Nat),x = .ref a∧vs=[.int i]∧SqT K H a (ns.map V.int)∧ns.findIdx? (fun n=>n==i)=some j∧Q (.int (j:Int)) H
theorem x0n:∀{ns:List Int} {its:List Value},Vals (ns.map V.int) its->∀(k:Nat) (h:k<its.length),∃t,∃h2:k<ns.length,its[k] = .int ns[k] t
 |[],_,.nil,_,h=>by simp at h
 |n::ns,_,.cons r t,k,h=>by
  obtain⟨u,rfl⟩:=r
  cases k with
  |zero=>exact⟨u,by simp,rfl⟩
  |succ k=>
   obtain⟨w,h2,e⟩:=x0n t k (by simpa using h)
   exact⟨w,by simpa using h2,by simpa using e⟩
def isI(i:Int):Value->Bool
 |.int k _=>k==i
 |_=>false
theorem y6C:MtR X "tuple.index" (rTIx X.K):=by
 intro pins s σ H x vs v us Q I rx rv h
 obtain⟨a,ns,i,j,rfl,rfl,hq,hj,q⟩:=h
 cases rx
 obtain⟨u,rfl,ru⟩:=rv.one
 obtain⟨ut,rfl⟩:=ru
 obtain⟨its,⟨cls,dct,dat,sl⟩,n,r,e,c,d,hd,_⟩:=I.tupleO hq
 subst c;subst hd
 obtain⟨hjl,hji,hjm⟩:=List.findIdx?_eq_some_iff_getElem.mp hj
 have hl:ns.length=its.length:=by have:=r.length;simpa using this
 have hj2:j<its.length:=by omega
 refine call_meets F.slot_tuple_index ⟨_,e,rfl⟩ F.entry_tuple_index (F.args_tuple_index_2 _ _) (z9a a its.toArray n dct sl (.int i ut) (isI i) j (by simpa using hj2) ?_ ?_) ⟨e,?_,?_⟩
 ·obtain⟨t,h2,e2⟩:=x0n r j hj2
  simp[e2,isI]
  simpa using hji
 ·intro m hm hmj
  obtain⟨t,h2,e2⟩:=x0n r m (by omega)
  have:=hjm m hmj
  simp[e2,isI]
  simpa using this
 ·intro y hy
  obtain⟨k,hk,rfl⟩:=List.getElem_of_mem (show y∈its by simpa using hy)
  obtain⟨t,h2,e2⟩:=x0n r k hk
  rw[e2]
  exact SeqAt.EqAt.int_int _ _ _ _
 ·exact⟨.int (j:Int),H,I.tok _,⟨_,rfl⟩,q⟩
theorem y1m:∀{ds:List D} {ns:List Int},z2w ds=some ns->ds=ns.map D.int
 |[],ns,h=>by cases h;rfl
 |.int i::r,ns,h=>by
  unfold z2w at h
  cases e:z2w r with
  |none=>rw[e]at h;cases h
  |some ms=>rw[e]at h;cases h;rw[ay,y1m e]
 |.non::_,_,h=>by cases h
 |.bl _::_,_,h=>by cases h
 |.str _::_,_,h=>by cases h
 |.lst _::_,_,h=>by cases h
 |.tup _::_,_,h=>by cases h
 |.scr _::_,_,h=>by cases h
 |.dct _ _::_,_,h=>by cases h
 |.exc _::_,_,h=>by cases h
 |.obj _ _ _ _::_,_,h=>by cases h
 |.cel _ _::_,_,h=>by cases h
theorem y4o{K:aa}{H:Hp}{B:Addr->Prop}:∀{ns:List Int} {xs:List V},Reps K H B (ns.map D.int) xs->xs=ns.map V.int
 |[],_,h=>by unfold Reps at h;exact h
 |n::ns,_,h=>by
  rw[ay]at h
  unfold Reps at h
  obtain⟨x,r,rfl,h1,h2⟩:=h
  unfold Rep at h1
  rw[h1,y4o h2]
  rfl
def tixF:D->D->Option D
 |.tup ds,.int i=>(z2w ds).bind fun ns=>(ns.findIdx? (fun n=>n==i)).map fun j=>.int (j:Int)
 |_,_=>none
theorem z7g{f g:DE}(ho:PD X o f)(he:PD X e g)(hbase:ff o "index" X.env (eval o X.env)=eval o X.env:=by rfl)
  (hfew:((e9 cpos (starEach [e] X.env)).all (fun x=>!x.1)&&(backToKw cpos (keywordEach [] X.env)).all (fun x=>x.1.isSome)&&decide ([e].length+([]:List fg).length+(if([]:List fg).isEmpty then 0 else 1)<30))=true:=by rfl)
  (hline:(apos.endLine==cpos.line)=true:=by rfl) (hs:starEach [e] X.env=(false,eval e X.env)::starEach [] X.env:=by rfl):
  PD X (.Call (.Attribute o "index" apos) [e] [] cpos) (d2 tixF f g):=
 (pe_tm PySem.F.slot_tuple_index PySem.F.type_tuple_index y6C ho (z0S he pa_nil hs) hbase hfew hline hs rfl).imp fun σ H Q ⟨B,δ,d,hB,S,q,k⟩=>by
  obtain⟨x,y,e1,e2,e3⟩:=z6M q
  unfold tixF at e3
  split at e3
  case h_2=>cases e3
  case h_1 ds i=>
  cases e4:z2w ds with
  |none=>rw[e4]at e3;cases e3
  |some ns=>
  rw[e4,av]at e3
  cases e5:ns.findIdx? (fun n=>n==i)with
  |none=>rw[e5]at e3;cases e3
  |some j=>
  rw[e5]at e3
  cases e3
  have eds:=y1m e4
  subst eds
  refine⟨B,δ,_,hB,S,e1,fun v H1 s1 r1=>?_⟩
  unfold Rep at r1
  obtain⟨a,xs,rfl,hq,rs⟩:=r1
  have ex:=y4o rs
  subst ex
  refine⟨⟨a,_,rfl,hq⟩,B,δ,_,hB.mono s1,S.mono s1,e2,fun v2 H2 s2 r2=>?_⟩
  unfold Rep at r2
  subst r2
  exact⟨a,ns,i,j,rfl,rfl,s2.tup hq,e5,k _ H2 (s1.trans s2) (by unfold Rep;rfl)⟩
end
open PySem.AutoSeq1 (wpAny_loadPart')
section
variable{prog:dw}{w:eX}{A:Around}{E:Value->Shared->Prop}{s:Shared}
theorem z5o{Q:List Value->Shared->Prop}{r:Addr}{a b:Int}{t u v:Tok}{n:Nat}(hh:A.handled=none)(hr:IsRange s.heap r a b 1 t u v)(hsmall:Builtin.Range.small a b 1=true)(hn:Builtin.Range.rangeSize a b 1=n)(hlen:n≤2 ^ 24)
  (hQ:∀h' tk acc',(∀b o',s.heap.get? b=some o'->h'.get? b=some o')->ItemsOf (fun i v=>∃t,v = .int (a+i*1) t) acc' n->Q acc'.toList { s with heap:=h',toks:=tk }):
  wpAny (model prog w) A (collect (.ref r)) Q E s:=by
 unfold collect
 refine wpAny_bind (wpAny_runValue (codeAny_builtin F.entry_proto_collect ?_))
 rw[Around.under_plainId F.plain_proto_collect _]
 show wpAny _ A.in1 (newList [] >>= fun l=>again (.builtin "list.__iadd__" ⟨[l,.ref r],[]⟩)) _ _ s
 refine wpAny_bind (wpAny_newObj_type ?_)
 refine wpAny_pure ⟨plainId_quiet F.plain_list_iadd _,codeAny_builtin F.entry_list_iadd ?_⟩
 rw[Around.under_plainId F.plain_list_iadd _]
 show wpAny _ A.in1 (Builtin.List.listExtendWith (.ref s.heap.objs.size) (.ref r) (.ref s.heap.objs.size)) _ _ _
 have hS:(s.heap.push { cls:=.type "list",data:=.seq ([]:List Value).toArray }).get? s.heap.objs.size=some { cls:=.type "list",data:=.seq #[] 0 }:=Heap.get?_push_size _ rfl
 have fin':∀(h':Heap) (tk:Nat) (acc':Array Value) (c':Nat),(∀b o,b≠s.heap.objs.size->(s.heap.push { cls:=.type "list",data:=.seq ([]:List Value).toArray }).get? b=some o->h'.get? b=some o) →
   h'.get? s.heap.objs.size=some { cls:=.type "list",dict:=none,data:=.seq acc' c',slots:=#[] }->ItemsOf (fun i v=>∃t,v = .int (a+i*1) t) acc' n →
   wpAny (model prog w) A (match Value.ref s.heap.objs.size with
   |Value.ref a=>do
    match (←load a).data with
     |Data.seq xs _=>pure xs.toList
     |_=>unsupported "internal:collect"
   |_=>unsupported "internal:collect") Q E { s with heap:=h',toks:=tk }:=by
  intro h' tk acc' c' kp e it
  show wpAny _ A (load s.heap.objs.size >>= _) _ _ _
  refine wpAny_bind (wpAny_load e ?_)
  refine wpAny_pure ?_
  exact hQ h' tk acc' (fun b o' hb=>kp b o' (aG (Heap.lt_size hb)) (Heap.get?_push_of_some _ hb)) it
 refine wpAny_mono (wpAny_extend_range (A:=A) (R:=fun r s'=>∃(h':Heap) (tk:Nat) (acc':Array Value) (c':Nat),r = .ok (.ret (.ref s.heap.objs.size))∧s' = { s with heap:=h',toks:=tk }∧(∀b o,b≠s.heap.objs.size->(s.heap.push { cls:=.type "list",data:=.seq ([]:List Value).toArray }).get? b=some o->h'.get? b=some o) ∧
   h'.get? s.heap.objs.size=some { cls:=.type "list",dict:=none,data:=.seq acc' c',slots:=#[] }∧ItemsOf (fun i v=>∃t,v = .int (a+i*1) t) acc' n)
  (s:={ s with heap:=s.heap.push { cls:=.type "list",data:=.seq ([]:List Value).toArray } }) hh (Heap.get?_push_of_some _ hr) hsmall hn hlen _ _ 0 hS fun h' tk acc' c' k e i=>⟨h',tk,acc',c',rfl,rfl,k,e,i⟩) (fun fin s' h=>?_) (fun e s' h=>?_)
 ·cases fin with
  |done f=>
   obtain⟨h',tk,acc',c',e,rfl,k,e2,i⟩:=h
   cases e
   exact fin' h' tk acc' c' k e2 i
  |again c'=>exact⟨h.1,codeAny_mono h.2 fun r s'' hr=>by obtain⟨h',tk,acc',c',rfl,rfl,k,e2,i⟩:=hr;exact fin' h' tk acc' c' k e2 i⟩
 ·obtain⟨_,_,_,_,e,_⟩:=h
  exact absurd e (by simp)
theorem z4k(r:Addr)(a b:Int)(t u v:Tok)(n:Nat)(hsmall:Builtin.Range.small a b 1=true)(hn:Builtin.Range.rangeSize a b 1=n)(hlen:n≤2 ^ 24):
  Meets (Builtin.«tuple.__new__» ⟨[.type "tuple",.ref r],[]⟩)
   (fun A R s=>A.handled=none∧IsRange s.heap r a b 1 t u v∧∀(h':Heap) (tk:Nat) (acc':Array Value),(∀b o',s.heap.get? b=some o'->h'.get? b=some o')->ItemsOf (fun i v=>∃t,v = .int (a+i*1) t) acc' n->R (.ok (.ret (.ref h'.objs.size))) { s with heap:=h'.push { cls:=.type "tuple",data:=.seq acc' },toks:=tk }):=
 .of_wp fun prog w A R s h=>by
  obtain⟨hp,g,d,tk,os⟩:=s;obtain⟨hh,ht,h⟩:=h
  have hsub:=sub_tuple_self
  have hinit:=init_tuple_lookup
  have hmh:=madeHere_tuple
  have ht':hp.get? r=some { cls:=.type "range",data:=.fields #[.int a t,.int b u,.int 1 v] }:=ht
  have hT:Shared.TypeIs ⟨hp,g,d,tk,os⟩ (.ref r) "range" := ⟨_,ht,rfl⟩
  wp_walk using wpAny_loadPart' ht',wpAny_typeOf hT,z5o (A:=A.in1) hh ht hsmall hn hlen
  intro h' tk' acc' hk hi
  show wpAny _ _ (Builtin.Tuple.tupleExact acc'.toList.toArray >>= fun v=>ret v) _ _ _
  unfold Builtin.Tuple.tupleExact
  refine wpAny_bind (wpAny_newObj_type ?_ (by show acc'.toList.toArray.size≤sizeLine;have:=hi.1;rw[sizeLine_eq];simp;omega))
  refine wpAny_pure ⟨_,rfl,?_⟩
  have e:acc'.toList.toArray=acc':=by simp
  rw[e]
  exact h h' tk' acc' hk hi
theorem z7Q{r:Addr}{a b:Int}{t u v:Tok}{n:Nat}{Q:Value->Shared->Prop}(hh:A.handled=none)(hr:IsRange s.heap r a b 1 t u v)(hsmall:Builtin.Range.small a b 1=true)(hn:Builtin.Range.rangeSize a b 1=n)(hlen:n≤2 ^ 24)
  (h:∀(h':Heap) (tk:Nat) (acc':Array Value),(∀b o',s.heap.get? b=some o'->h'.get? b=some o')->ItemsOf (fun i v=>∃t,v = .int (a+i*1) t) acc' n->Q (.ref h'.objs.size) { s with heap:=h'.push { cls:=.type "tuple",data:=.seq acc' },toks:=tk }):
  wpAny (model prog w) A (call (.type "tuple") [.ref r]) Q E s:=
 callType_new F.called_tuple (by decide) (F.typeCall_tuple_1 _) (F.newCall_tuple_1 _) (fun obj=>F.args_object_init_2 obj _) F.entry_tuple_new
  (z4k r a b t u v n hsmall hn hlen) ⟨hh,hr,fun h' tk acc' hk hi=>⟨⟨_,Heap.get?_push_size _ rfl,rfl⟩,h h' tk acc' hk hi⟩⟩
end
def tRngV1(ta:TA):TE:=fun σ H Q=>ta σ H fun vs H1=>∃j:Int,vs=[.int j]∧∀p,H1 p=none->Q (.ref p) (upd H1 p (.rng 0 j))
section
variable{X:Cx}
theorem y0w{a:Expr}{ta:TA}{p pos:Pos}(hg:Gl X "range")(hm:X.mg "range" = none)(ha:PA X [a] ta)(hs:starEach [a] X.env=[(false,eval a X.env)]:=by rfl):PE X (.Call (.Name "range" p) [a] [] pos) (tRngV1 ta):=by
 intro pins s σ H Q I h
 refine wpAny_Call_Name_kw (z4E I hg hm boot_range (PyProof.Rows.callWith_type1 (thn (ha pos pins s σ H _ I h) fun us s1 ⟨vs,H1,I1,r1,q1⟩=>?_) hs rfl))
 obtain⟨j,e,q⟩:=q1
 subst e
 cases r1 with
 |cons r rr=>
  cases rr
  obtain⟨t,rfl⟩:=r
  refine call_range_1 ⟨.ref s1.heap.objs.size,_,I1.laid (fun b o e=>Heap.get?_push_of_some _ e) (aj _) ?_,rfl,q _ (I1.hok.fresh (aj _))⟩
  exact⟨_,_,_,Heap.get?_push_size _ rfl⟩
def y6f(lo:Int)(n:Nat):List V:=(ad n).map fun i=>.int (lo+(i:Nat))
theorem z7S{lo:Int}:∀{n:Nat} {acc:Array Value},ItemsOf (fun i v=>∃t,v=Value.int (lo+i*1) t) acc n->Vals (y6f lo n) acc.toList:=by
 intro n acc h
 obtain⟨hs,hv⟩:=h
 have key:∀(vs:List Value) (k:Nat),(∀j v,vs[j]? = some v->∃t,v=Value.int (lo+((k+j:Nat):Int)) t)->Vals ((ca k vs.length).map fun i=>V.int (lo+(i:Nat))) vs:=by
  intro vs
  induction vs with
  |nil=>intro k _;exact .nil
  |cons x r ih=>
   intro k hx
   rw[aX,dm,ay]
   obtain⟨t,e⟩:=hx 0 x rfl
   refine .cons ⟨t,by simpa using e⟩ (ih (k+1) fun j v hj=>?_)
   obtain⟨t,e⟩:=hx (j+1) v (by simpa using hj)
   exact⟨t,by rw[e];congr 1 <;> omega⟩
 have:=key acc.toList 0 fun j v hj=>by
  obtain⟨t,e⟩:=hv j v (by simpa using hj)
  exact⟨t,by rw[e];congr 1 <;> omega⟩
 rw[←eI,bC,hs]at this
 exact this
theorem y3y{lo:Int}{n:Nat}:(y6f lo n).length=n:=by simp[y6f]
theorem y2T(hc:X.calm=true):z4a X (.type "tuple") (fun xs H Q=>∃(p:Addr) (lo hi:Int),xs=[.ref p]∧H p=some (.rng lo hi)∧(-(2 ^ 62)≤lo∧lo<2 ^ 62∧-(2 ^ 62)≤hi∧hi<2 ^ 62)∧(hi - lo).toNat≤sizeLine∧∀H',Same H H'->∀l,H' l=none->Q (.ref l) (upd H' l (.tup (y6f lo (hi - lo).toNat)))):=by
 intro pins s σ H xs us Q I r h
 obtain⟨p,lo,hi,rfl,hp,hb,hl,q⟩:=h
 obtain⟨u,rfl,rx⟩:=z7v r
 cases rx
 obtain⟨t,u,v,e⟩:=I.hok p _ hp
 refine z7Q (I.ok.hd hc) e (small_one hb.1 hb.2.1 hb.2.2.1 hb.2.2.2) (n:=(hi - lo).toNat) (by rw[rangeSize_one];split <;> omega) (by rw[sizeLine_eq]at hl;omega) fun h' tk acc' kp it=>?_
 have I1:Inv X pins σ H { s with heap:=h',toks:=tk }:=I.kept kp
 have I2:Inv X pins σ (upd H h'.objs.size (.tup (y6f lo (hi - lo).toNat))) { s with heap:=h'.push { cls:=.type "tuple",data:=.seq acc' },toks:=tk }:=
  I1.laid (fun b o e=>Heap.get?_push_of_some _ e) (aj _) (show ObjOk X.prog X.w _ _ _ (.tup (y6f lo (hi - lo).toNat)) from⟨by rw[y3y];exact hl,acc'.toList,z7S it,by simpa using TupN.new h' acc'⟩)
 exact⟨.ref h'.objs.size,_,I2,rfl,q H (.refl H) _ (I1.hok.fresh (aj _))⟩
theorem y5l(hc:X.calm=true):z4a X (.type "list") (fun xs H Q=>∃(p:Addr) (lo hi:Int),xs=[.ref p]∧H p=some (.rng lo hi)∧(-(2 ^ 62)≤lo∧lo<2 ^ 62∧-(2 ^ 62)≤hi∧hi<2 ^ 62)∧(hi - lo).toNat≤sizeLine∧∀l,H l=none->Q (.ref l) (upd H l (.lst (y6f lo (hi - lo).toNat)))):=by
 intro pins s σ H xs us Q I r h
 obtain⟨p,lo,hi,rfl,hp,hb,hl,q⟩:=h
 obtain⟨u,rfl,rx⟩:=z7v r
 cases rx
 obtain⟨t,u,v,e⟩:=I.hok p _ hp
 refine call_list_range (I.ok.hd hc) e (small_one hb.1 hb.2.1 hb.2.2.1 hb.2.2.2) (n:=(hi - lo).toNat) (by rw[rangeSize_one];split <;> omega) (by rw[sizeLine_eq]at hl;omega) fun h' tk acc' c' kp e2 it=>?_
 have I2:Inv X pins σ (upd H s.heap.objs.size (.lst (y6f lo (hi - lo).toNat))) { s with heap:=h',toks:=tk }:=
  I.laid kp (aj _) (show ObjOk X.prog X.w _ h' _ (.lst (y6f lo (hi - lo).toNat)) from⟨by rw[y3y];exact hl,acc'.toList,c',z7S it,by simpa using e2⟩)
 exact⟨.ref s.heap.objs.size,_,I2,rfl,q _ (I.hok.fresh (aj _))⟩
def z4J(g:DS->Option (List D)):DS->Option (List D):=fun δ=>(g δ).bind fun ds=>if ds.length≤sizeLine then some ds else none
theorem y3A{K:aa}{H:Hp}{B:Addr->Prop}{lo:Int}{n:Nat}:Reps K H B (z2h lo n) (y6f lo n):=by
 unfold z2h y6f
 generalize ad n=l
 induction l with
 |nil=>exact .nil
 |cons k r ih=>exact .cons (by unfold Rep;rfl) ih
theorem y1p{f:DE}{δ:DS}{ds:List D}(h:z1L f δ=some ds):∃j:Int,f δ=some (.int j)∧-(2 ^ 62)≤j∧j<2 ^ 62∧ds=z2h 0 j.toNat:=by
 unfold z1L at h
 split at h
 ·rename_i j e
  split at h
  ·rename_i hb
   cases h
   exact⟨j,e,hb.1,hb.2,rfl⟩
  ·cases h
 ·cases h
theorem z8h{g:DS->Option (List D)}{δ:DS}{ds:List D}(h:z4J g δ=some ds):g δ=some ds∧ds.length≤sizeLine:=by
 unfold z4J at h
 cases e:g δ with
 |none=>rw[e]at h;cases h
 |some es=>
  rw[e]at h
  have h:(if es.length≤sizeLine then some es else none)=some ds:=h
  split at h
  ·cases h;exact⟨rfl,by assumption⟩
  ·cases h
theorem y4r{lo:Int}{n:Nat}:(z2h lo n).length=n:=by simp[z2h]
variable{a:Expr}{f:DE}{p p2 pos pos2:Pos}
theorem x1z(hc:X.calm=true)(hg:Gl X "tuple")(hm:X.mg "tuple" = none)(hg2:Gl X "range")(hm2:X.mg "range" = none)(h:PD X a f)(he2:starEach [a] X.env=[(false,eval a X.env)]:=by rfl)
  (he:starEach [.Call (.Name "range" p2) [a] [] pos2] X.env=[(false,eval (.Call (.Name "range" p2) [a] [] pos2) X.env)]:=by rfl):PD X (.Call (.Name "tuple" p) [.Call (.Name "range" p2) [a] [] pos2] [] pos) (mkT (z4J (z1L f))):=
 (z6x (y2T hc) hg hm PyProof.Rows.Boot.«tuple» (z0S (y0w hg2 hm2 (z0S h pa_nil he2) he2) pa_nil he) (by decide) (by decide) he rfl).imp fun σ H Q ⟨B,δ,d,hB,S,q,k⟩=>by
  unfold mkT at q
  cases e1:z4J (z1L f) δ with
  |none=>rw[e1]at q;cases q
  |some ds=>
  rw[e1]at q
  cases q
  obtain⟨e2,hl⟩:=z8h e1
  obtain⟨j,e3,h1,h2,rfl⟩:=y1p e2
  rw[y4r]at hl
  refine⟨B,δ,_,hB,S,e3,fun v H1 s1 r1=>?_⟩
  unfold Rep at r1
  subst r1
  refine⟨j,rfl,fun r hr=>⟨r,0,j,rfl,z0o,⟨by omega,by omega,h1,h2⟩,by simpa using hl,fun H' s' l hl'=>?_⟩⟩
  refine k _ _ ((s1.trans (z0n hr)).trans (s'.trans (z0n hl'))) ?_
  unfold Rep
  exact⟨l,_,rfl,SqT.of z0o,by rw[Int.sub_zero];exact y3A⟩
theorem y7B(hc:X.calm=true)(hg:Gl X "list")(hm:X.mg "list" = none)(hg2:Gl X "range")(hm2:X.mg "range" = none)(h:PD X a f)(he2:starEach [a] X.env=[(false,eval a X.env)]:=by rfl)
  (he:starEach [.Call (.Name "range" p2) [a] [] pos2] X.env=[(false,eval (.Call (.Name "range" p2) [a] [] pos2) X.env)]:=by rfl):PF X (.Call (.Name "list" p) [.Call (.Name "range" p2) [a] [] pos2] [] pos) (z4J (z1L f)):=
 (z6x (y5l hc) hg hm PyProof.Rows.Boot.«list» (z0S (y0w hg2 hm2 (z0S h pa_nil he2) he2) pa_nil he) (by decide) (by decide) he rfl).imp fun σ H Q ⟨B,δ,ds,hB,S,e1,k⟩=>by
  obtain⟨e2,hl⟩:=z8h e1
  obtain⟨j,e3,h1,h2,rfl⟩:=y1p e2
  rw[y4r]at hl
  refine⟨B,δ,_,hB,S,e3,fun v H1 s1 r1=>?_⟩
  unfold Rep at r1
  subst r1
  refine⟨j,rfl,fun r hr=>⟨r,0,j,rfl,z0o,⟨by omega,by omega,h1,h2⟩,by simpa using hl,fun l hl'=>?_⟩⟩
  refine k l _ _ ((s1.trans (z0n hr)).trans (z0n hl')) (s1.free ((z0n (H:=H1) hr).free hl')) z0o ?_
  rw[Int.sub_zero]
  exact y3A
end
section
variable{X:Cx}{pins:List (Addr×Obj)}{σ:St}{H:Hp}{s:Shared}{h':Heap}
theorem Inv.turnedL{t':Nat}{fp:List Addr}(I:Inv X pins σ H s)(k:∀b o,b∉fp->s.heap.get? b=some o->h'.get? b=some o)(hf:∀b∈fp,y0O X pins H b):Inv X pins σ H { s with heap:=h',toks:=t' }:=by
 have nit:∀b u,H b=some u->b∉fp:=fun b u e z=>by rw[(hf b z).1]at e;cases e
 have nL:X.env.locals∉fp:=fun z=>(hf _ z).2.1 rfl
 refine I.step (g':=s.gens) (d':=s.drawn) (ch:=fp) (fun b hb=>?_) (fun b o _ _ hc e _=>k b o hc e) (fun b o _ _ hc e _=>⟨o.slots,k b o hc e⟩) (fun _ _ _ _ n=>n)
  (fun b o hc e=>⟨o,k b o hc e⟩) (fun _ _ e=>e) (fun _ _ _ e=>e) (fun b ps e=>⟨#[],by rw[e];simp⟩) (fun m hm=>?_) (fun b u e=>?_) I.bare
 ·obtain⟨f0,f1,f2,f3,f4,f5⟩:=hf b hb
  exact⟨f3,f1,f4,f5⟩
 ·obtain⟨o,es,ep,ho,r⟩:=hm
  exact⟨o,es,ep,k _ o nL ho,r⟩
 ·refine(I.hok b u e).stay (fun c v hc q=>k c v ?_ q) (fun _ q=>q) fun _ _ q=>q
  rcases hc with z | z
  ·rw[z];exact nit b u e
  ·exact nit c _ z
def Ite(K:aa)(a:Addr):It:=
 ⟨fun i H=>∃xs x,SqL K H a xs∧xs[i]? = some x,fun i H v H'=>∃p x,H p=none∧v = .ref p∧H'=upd H p (.tup [.int (i:Nat),x])∧∀xs,SqL K H a xs->xs[i]? = some x,fun i H=>∃xs,SqL K H a xs∧xs.length≤i⟩
theorem y6l{P:dw}{w:eX}{K:aa}{elts:List Expr}{x1}{tp:Pos}(a e it:Addr)(hne:e≠it):
  Turn P w K (.Tuple elts x1 tp) (Ite K a) [e,it] e (fun i h=>(∃old,IsEnum h e it ((i:Nat):Int) old)∧h.IsListIter it a i) where
 mem:=by simp
 obj:=fun i h st b hb=>by
  obtain⟨⟨old,he⟩,o,eo,c,d⟩:=st
  rcases ao.mp hb with z | z
  ·subst z
   exact⟨_,he,fun v z=>by cases z⟩
  ·have z:b=it:=by simpa using z
   subst z
   exact⟨o,eo,fun v z=>by rw[d]at z;cases z⟩
 keep:=fun i h h' st k=>by
  obtain⟨⟨old,he⟩,hi⟩:=st
  exact⟨⟨old,k e (by simp) _ he⟩,hi.at fun o q=>k it (by simp) o q⟩
 item:=by
  intro X hP hw hK hc i pins s σ H E I hf st hg
  subst hP hw hK
  obtain⟨xs,x,hq,hx⟩:=hg
  obtain⟨its,rv,p,hz⟩:=I.list hq
  obtain⟨u,hu,ru⟩:=rv.get hx
  obtain⟨⟨old,he⟩,hi⟩:=st
  refine wpAny_pyNext_enum_item he hi p.isList (x:=u) (by simpa using hu) hne fun h1 heo hi1 ht1 hz1 hk1=>⟨_,rfl,?_⟩
  refine wpAny_letOwnedTupleGo_enum heo fun h2 he2 hs2=>?_
  have hs2:Heap.SameBut e h1 h2:=hs2
  have elt:e<s.heap.objs.size:=Heap.lt_size he
  obtain⟨oi,eoi,_⟩:=id hi
  have ilt:it<s.heap.objs.size:=Heap.lt_size eoi
  have hp:H s.heap.objs.size=none:=I.hok.fresh (aj _)
  have I1:Inv X pins σ (upd H s.heap.objs.size (.tup [.int (i:Nat),x])) { s with heap:=s.heap.push { cls:=.type "tuple",data:=.seq #[.int (i:Nat) s.toks,u] },toks:=s.toks+1 }:=
   I.laid (fun b o q=>Heap.get?_push_of_some _ q) (aj _) (show ObjOk X.prog X.w _ _ _ (.tup [.int (i:Nat),x]) from⟨by show 2≤sizeLine;rw[sizeLine_eq];decide,[.int (i:Nat) s.toks,u],.cons ⟨_,rfl⟩ (.cons ru .nil),TupN.new _ _⟩)
  have hf1:∀b∈[e,it],y0O X pins (upd H s.heap.objs.size (.tup [.int (i:Nat),x])) b:=fun b hb=>by
   obtain⟨f0,f⟩:=hf b hb
   refine⟨?_,f⟩
   have:b≠s.heap.objs.size:=by
    rcases ao.mp hb with z | z
    ·rw[z];exact aG elt
    ·have z:b=it:=by simpa using z
     rw[z];exact aG ilt
   rw[z0t this]
   exact f0
  have kk:∀b o,b∉[e,it]->(s.heap.push { cls:=.type "tuple",data:=.seq #[.int (i:Nat) s.toks,u] }).get? b=some o->h2.get? b=some o:=by
   intro b o hb q
   have hbe:b≠e:=fun z=>hb (by simp[z])
   have hbi:b≠it:=fun z=>hb (by simp[z])
   rw[hs2.2 b hbe]
   by_cases hbs:b=s.heap.objs.size
   ·subst hbs
    rw[ht1]
    have:(s.heap.push { cls:=.type "tuple",data:=.seq #[.int (i:Nat) s.toks,u] }).get? s.heap.objs.size=some { cls:=.type "tuple",data:=.seq #[.int (i:Nat) s.toks,u] }:=Heap.get?_push_size _ rfl
    exact this.symm.trans q
   ·have q':s.heap.get? b=some o:=(Heap.get?_push_ne s.heap _ _ hbs).symm.trans q
    exact hk1 b o hbe hbi q'
  have I2:Inv X pins σ (upd H s.heap.objs.size (.tup [.int (i:Nat),x])) { s with heap:=h2,toks:=s.toks+1 }:=Inv.turnedL (s:={ s with heap:=s.heap.push { cls:=.type "tuple",data:=.seq #[.int (i:Nat) s.toks,u] },toks:=s.toks+1 }) (h':=h2) (t':=s.toks+1) (fp:=[e,it]) I1 kk hf1
  refine⟨.ref s.heap.objs.size,_,I2,rfl,⟨_,x,hp,rfl,rfl,fun ys hy=>by rw[I.list_inj hy hq];exact hx⟩,⟨⟨u,?_⟩,?_⟩,fun b hb=>(hf1 b hb).1⟩
  ·have:(((i+1:Nat):Int))=((i:Int)+1):=by omega
   rw[this]
   exact he2
  ·exact hi1.at fun o q=>(hs2.2 it (Ne.symm hne)).trans q
 done:=by
  intro X hP hw hK hc i pins s σ H E I hf st hg
  subst hP hw hK
  obtain⟨xs,hq,hx⟩:=hg
  obtain⟨its,rv,p,hz⟩:=I.list hq
  obtain⟨⟨old,he⟩,hi⟩:=st
  have hl:=rv.length
  exact wpAny_pyNext_enum_end (I.ok.hd hc) he hi p.isList (by simp;omega) fun h' eb=>⟨rfl,I.turnedL (t':=s.toks) (fp:=[e,it]) (fun b o hb q=>eb b o (fun z=>hb (by simp[z])) q) hf⟩
 self:=fun _ _ _ _ _ st h=>let⟨⟨_,he⟩,_⟩:=st;wpAny_pyIter_enum he h
def iEnum(K:aa)(tl:TE):TI:=fun σ H R=>tl σ H fun x H1=>∃a,[x]=[V.ref a]∧(∃xs,SqL K H1 a xs)∧R (Ite K a) H1
theorem pi_enum{elts:List Expr}{x1}{tp p pos:Pos}{l:Expr}{tl:TE}(hg:Gl X "enumerate")(hm:X.mg "enumerate" = none)(hl:PE X l tl)(hs:starEach [l] X.env=[(false,eval l X.env)]:=by rfl):
  PI X (.Tuple elts x1 tp) (.Call (.Name "enumerate" p) [l] [] pos) (iEnum X.K tl):=by
 intro pins s σ H R I h
 have hA:PA X [l] (fun σ H Q=>tl σ H fun x H1=>Q [x] H1):=(z0S hl pa_nil (by rw[hs];rfl)).imp fun σ H Q q=>q
 refine wpAny_Call_Name_kw (z4E I hg hm boot_enumerate (PyProof.Rows.callWith_type1 (thn (hA pos pins s σ H (fun vs H1=>∃a,vs=[V.ref a]∧(∃xs,SqL X.K H1 a xs)∧R (Ite X.K a) H1) I h) fun us s1 ⟨vs,H1,I1,r1,q1⟩=>?_) hs rfl))
 obtain⟨a,rfl,⟨xs,hq⟩,q⟩:=q1
 obtain⟨u,rfl,ru⟩:=r1.one
 cases ru
 obtain⟨its,rv,pl,hz⟩:=I1.list hq
 refine call_enumerate_list pl.isList fun h1 he hi hsz kp=>?_
 refine wpAny_pyIter_enum he ?_
 have I2:Inv X pins σ H1 { s1 with heap:=h1 }:=I1.kept (t':=s1.toks) kp
 refine⟨s1.heap.objs.size+1,[s1.heap.objs.size+1,s1.heap.objs.size],_,_,H1,rfl,I2,y6l a _ _ (Nat.succ_ne_self _),⟨⟨_,he⟩,hi⟩,fun b hb=>?_,q⟩
 have hb':s1.heap.objs.size≤b:=by
  rcases ao.mp hb with z | z
  ·rw[z];exact dB _
  ·have z:b=s1.heap.objs.size:=by simpa using z
   rw[z];exact aj _
 exact I1.fpOk hb' (I1.hok.fresh hb')
end
def z0r(k:Nat):List D->List D
 |[]=>[]
 |d::r=>.tup [.int (k:Nat),d]::z0r (k+1) r
theorem y4v:∀{ds:List D} {k i:Nat},(z0r k ds)[i]? = (ds[i]?).map fun d=>.tup [.int ((k+i:Nat):Int),d]
 |[],_,_=>by simp[z0r]
 |d::r,k,0=>by simp[z0r]
 |d::r,k,i+1=>by
  show(z0r (k+1) r)[i]? = (r[i]?).map _
  rw[y4v]
  congr 1
  funext d
  congr 3
  omega
theorem z9e:∀{ds:List D} {k:Nat},(z0r k ds).length=ds.length
 |[],_=>rfl
 |d::r,k=>by show(z0r (k+1) r).length+1=r.length+1;rw[z9e]
theorem y3M{K:aa}{H:Hp}{B:Addr->Prop}{a:Addr}{xs:List V}{ds:List D}(hs:∀H',Keep K B H H'->SqL K H' a xs)(r:Reps K H B ds xs):ItD K (Ite K a) H B (z0r 0 ds):=by
 have hl:=r.length
 refine⟨fun i H' kp hi=>?_,fun i H' kp hi=>?_,fun i H' v H2 kp hy=>?_⟩
 ·rw[z9e,hl]at hi
  exact⟨xs,xs[i],hs H' kp,ac hi⟩
 ·rw[z9e,hl]at hi
  exact⟨xs,hs H' kp,hi⟩
 ·obtain⟨p,x,hp,rfl,rfl,hx⟩:=hy
  have hx:=hx xs (hs H' kp)
  obtain⟨d,e,rd⟩:=(Reps.keep kp ds r).get' hx
  refine⟨z0n hp,.tup [.int (i:Nat),d],fun _=>by rw[y4v,e];simp,?_⟩
  unfold Rep
  exact⟨p,_,rfl,SqT.of z0o,.cons (by unfold Rep;rfl) (.one (rd.mono (z0n hp)))⟩
def y5H:D->Option (List D)
 |.lst ds=>some (z0r 0 ds)
 |.scr ns=>some (z0r 0 (ns.map .int))
 |_=>none
def y5h(f:DE):DS->Option (List D):=fun δ=>(f δ).bind y5H
section
variable{X:Cx}
theorem z9t{elts:List Expr}{x1}{tp p pos:Pos}{l:Expr}{f:DE}(hg:Gl X "enumerate")(hm:X.mg "enumerate" = none)(h:PD X l f)(hs:starEach [l] X.env=[(false,eval l X.env)]:=by rfl):
  PID X (.Tuple elts x1 tp) (.Call (.Name "enumerate" p) [l] [] pos) (y5h f):=(pi_enum hg hm h hs).imp fun σ H R ⟨B,δ,ds,hB,S,q,k⟩=>by
 unfold y5h at q
 cases e:f δ with
 |none=>rw[e]at q;cases q
 |some d=>
  rw[e]at q
  have q':y5H d=some ds:=q
  refine⟨B,δ,d,hB,S,e,fun v H1 s1 r1=>?_⟩
  unfold y5H at q'
  split at q'
  ·cases q'
   unfold Rep at r1
   obtain⟨a,xs,rfl,n,h,r⟩:=r1
   refine⟨a,rfl,⟨xs,SqL.of h⟩,k _ H1 s1 fun C hC=>?_⟩
   have na:¬ (B a∨C a):=fun z=>z.elim n fun z=>by rw[hC a z]at h;cases h
   exact y3M (xs:=xs) (fun H' kp=>SqL.of (kp.sl a xs na h)) (Reps.wide hC _ r)
  ·cases q'
   unfold Rep at r1
   obtain⟨a,rfl,h⟩:=r1
   exact⟨a,rfl,⟨_,h.sq⟩,k _ H1 s1 fun C hC=>y3M (fun H' kp=>(kp.sf a _ h).sq) (z3N _)⟩
  ·cases q'
def two(h:D->D->Option (Option D)):D->Option (Option D)
 |.tup [a,b]=>h a b
 |_=>none
def z3D(fc:DS->Option Bool)(fe:DE)(δ:DS):D->D->Option (Option D):=fun a b=>(fc (δ++[some a,some b])).bind fun k=>if k=true then(fe (δ++[some a,some b])).map some else some none
def z5I(fi:DS->Option (List D))(fc:DS->Option Bool)(fe:DE):DS->Option (List D):=fun δ=>(fi δ).bind fun xs=>if xs.length≤sizeLine then z0Z (two (z3D fc fe δ)) xs else none
theorem x1J{h:D->D->Option (Option D)}{d:D}{o:Option D}(e:two h d=some o):∃a b,d = .tup [a,b]∧h a b=some o:=by
 unfold two at e
 split at e
 ·exact⟨_,_,rfl,e⟩
 ·cases e
theorem y0m{v1 v2 w1 w2:Option V}:∀{σ:St},((σ++[w1,w2]).set σ.length v1).set (σ.length+1) v2=σ++[v1,v2]
 |[]=>rfl
 |x::r=>congrArg (x :: ·) (y0m (σ:=r))
theorem RepS.snoc2{K:aa}{H:Hp}{B:Addr->Prop}{σ:St}{δ:DS}{d e:D}{v w:V}(S:RepS K H B σ δ)(r:Rep K H B d v)(r':Rep K H B e w):RepS K H B (σ++[some v,some w]) (δ++[some d,some e]):=by
 have:=(S.snoc r).snoc r'
 rw[aR,aR]at this
 exact this
variable{N':List Str}{sc:fu}{iter elt:Expr}{ifs:List Expr}{n:Nat}{x y:Str}{px py tp pos:Pos}{x1:Nat}{fi:DS->Option (List D)}{fc:DS->Option Bool}{fe:DE}
def gTwo(K:aa)(n:Nat):TG:=gTup K 2 (x0b (z3f n) (x0b (z3f (n+1)) gNil))
theorem y8i{σ:St}{H:Hp}{Q:VK}(hσ:σ.length=n)(hq:tF X.K (z5I fi fc fe) σ H Q):y9c (tI X.K fi) (gTwo X.K n) (tT X.K fc) (tD X.K fe) 2 σ H Q:=by
 obtain⟨B,δ,ds,hB,Sδ,q,k⟩:=hq
 unfold z5I at q
 cases e1:fi δ with
 |none=>rw[e1]at q;cases q
 |some xs=>
 rw[e1]at q
 have q1:(if xs.length≤sizeLine then z0Z (two (z3D fc fe δ)) xs else none)=some ds:=q
 split at q1
 case isFalse=>cases q1
 case isTrue hsz=>
 refine⟨B,δ,xs,hB,Sδ,e1,fun J H1 s1 itw=>fun Da hD=>?_⟩
 have hD0:H Da=none:=s1.free hD
 have it:=itw (fun a=>a=Da) fun a ha=>by rw[ha];exact hD
 have Sw:RepS X.K H1 (fun a=>B a∨a=Da) σ δ:=(Sδ.mono s1).wide fun a ha=>by rw[ha];exact hD
 refine⟨fun i m σ' H'=>m=xs.length - i∧i≤xs.length∧(∃w w',σ'=σ++[w,w'])∧Same H1 H'∧∃ys dn rs,H' Da=some (.lst ys)∧Reps X.K H' (fun a=>B a∨a=Da) dn ys∧ds=dn++rs∧dn.length≤i ∧
  z0Z (two (z3D fc fe δ)) (xs.drop i)=some rs,
  ⟨xs.length,by simp,bJ _,⟨none,none,rfl⟩,z0n hD,[],[],ds,z0o,.nil,rfl,aj _,q1⟩,?_⟩
 rintro i m σ' H' ⟨rfl,hi',⟨w,w',rfl⟩,sm,ys,dn,rs,hys,rys,hds,hln,hrs⟩
 have kp:Keep X.K (fun a=>B a∨a=Da) H1 H':=.same sm
 by_cases hlt:i<xs.length
 ·refine .inr ⟨it.go i H' kp hlt,fun σ'' H''=>(i+1≤xs.length∧(∃w w',σ''=σ++[w,w'])∧Same H1 H''∧∃ys dn rs,H'' Da=some (.lst ys)∧Reps X.K H'' (fun a=>B a∨a=Da) dn ys∧ds=dn++rs∧dn.length≤i+1 ∧
   z0Z (two (z3D fc fe δ)) (xs.drop (i+1))=some rs),fun σ'' H'' h=>⟨xs.length - (i+1),by omega,rfl,h⟩,fun xv H2 hy=>?_⟩
  obtain⟨s2,d,hd,rd⟩:=it.yld i H' xv H2 kp hy
  have hdi:=hd hlt
  have hx:xs.drop i=d::xs.drop (i+1):=by
   obtain⟨hl,e⟩:=aP.mp hdi
   rw[aM hl,e]
  rw[hx]at hrs
  obtain⟨o,rs',e2,e3,e4⟩:=z5H hrs
  obtain⟨da,db,ed,e2b⟩:=x1J e2
  subst ed
  unfold Rep at rd
  obtain⟨p,vs,rfl,hsq,rvs⟩:=rd
  unfold Reps at rvs
  obtain⟨va,r1,rfl,ra,rvs⟩:=rvs
  unfold Reps at rvs
  obtain⟨vb,r2,rfl,rb,rvs⟩:=rvs
  unfold Reps at rvs
  subst rvs
  refine⟨p,[va,vb],rfl,hsq,rfl,va,[vb],rfl,vb,[],rfl,rfl,?_⟩
  rw[←hσ,y0m]
  have hB1:InB (fun a=>B a∨a=Da) H2:=fun a ha=>ha.elim (fun z=>(((hB.mono s1).mono sm).mono s2) a z) fun z=>⟨_,s2 _ _ (z ▸ hys)⟩
  have S2:RepS X.K H2 (fun a=>B a∨a=Da) (σ++[some va,some vb]) (δ++[some da,some db]):=((Sw.mono sm).mono s2).snoc2 ra rb
  have hl2:ys.length<sizeLine:=by
   have:=rys.length
   omega
  unfold z3D at e2b
  cases ec:fc (δ++[some da,some db])with
  |none=>rw[ec]at e2b;cases e2b
  |some kk=>
   rw[ec]at e2b
   have e2':(if kk=true then(fe (δ++[some da,some db])).map some else some none)=some o:=e2b
   refine⟨_,δ++[some da,some db],kk,hB1,S2,ec,fun H3 s3=>?_⟩
   cases kk with
   |false=>
    rw[if_neg ak]at e2'
    rw[if_neg ak]
    cases e2'
    exact⟨hlt,⟨_,_,rfl⟩,(sm.trans s2).trans s3,ys,dn,rs',s3 _ _ (s2 _ _ hys),(rys.mono s2).mono s3,by rw[hds,e4];rfl,di hln,e3⟩
   |true=>
    rw[if_pos rfl]at e2'
    rw[if_pos rfl]
    cases ey:fe (δ++[some da,some db])with
    |none=>rw[ey]at e2';cases e2'
    |some y=>
     rw[ey]at e2'
     cases e2'
     refine⟨_,δ++[some da,some db],y,hB1.mono s3,S2.mono s3,ey,fun yv H5 s5 r5=>⟨ys,s5 _ _ (s3 _ _ (s2 _ _ hys)),hl2,?_⟩⟩
     have hu:H5 Da=some (.lst ys):=s5 _ _ (s3 _ _ (s2 _ _ hys))
     refine⟨hlt,⟨_,_,rfl⟩,fun b u hb=>?_,ys++[yv],dn++[y],rs',z0o,?_,by rw[hds,e4,aR];rfl,by rw[aC];simp;omega,e3⟩
     ·rw[z0t (z1e hb hD)]
      exact s5 _ _ (s3 _ _ (s2 _ _ (sm _ _ hb)))
     ·exact Reps.keep (.upd (.inr rfl) (by rw[hu];exact trivial)) _ (((rys.mono s2).mono s3 |>.mono s5).snoc r5)
 ·have e:i=xs.length:=by omega
  subst e
  refine .inl ⟨it.stop _ H' kp (aj _),?_⟩
  rw[cv]at hrs
  cases hrs
  rw[aL]at hds
  subst hds
  exact k Da ys H' (s1.trans sm) hD0 hys (rys.anti fun a z=>.inl z)
theorem z9X(hc:X.calm=true)(S:CompScope X.N X.env.scope.names N' 2 sc)(hn:n=X.N.length)(hi:PID X (.Tuple [.Name x px,.Name y py] x1 tp) iter fi)
  (hg:∀s H fp pins E,PG (z0E X N' sc s H fp pins E) (.Tuple [.Name x px,.Name y py] x1 tp) (gTwo X.K n)) (ht:∀s H fp pins E,x0h (z0E X N' sc s H fp pins E) ifs (tT X.K fc)) (he:∀s H fp pins E,PE (z0E X N' sc s H fp pins E) elt (tD X.K fe))
  (hs:∀x,foldedSetIterable iter X.env x=pure x:=by intro _;rfl):PF X (.ListComp elt [⟨.Tuple [.Name x px,.Name y py] x1 tp,iter,ifs,0⟩] sc pos) (z5I fi fc fe):=by
 intro pins s σ H Q I hq
 exact y2V hc S hi ⟨hg,ht,he⟩ hs pins s σ H Q I (y8i (by rw[hn,I.len]) hq)
theorem y6w{X:Cx}{n:Nat}{x y:Str}{px py tp:Pos}{x1}(hc:X.calm=true)(h1:PG X (.Name x px) (z3f n))(h2:PG X (.Name y py) (z3f (n+1)))
  (hs:(e7 [.Name x px,.Name y py] X.env).map (·.2)=assign (.Name x px) X.env::(e7 [.Name y py] X.env).map (·.2):=by rfl) (hs2:(e7 [.Name y py] X.env).map (·.2)=assign (.Name y py) X.env::(e7 [] X.env).map (·.2):=by rfl)
  (hn:(e7 [.Name x px,.Name y py] X.env).length=2:=by rfl) (hst:(e7 [.Name x px,.Name y py] X.env).findIdx? (·.1)=none:=by rfl):PG X (.Tuple [.Name x px,.Name y py] x1 tp) (gTwo X.K n):=
 x2p hc (z6c h1 (z6c h2 y6e hs2) hs) hn hst
end
def y2c:D->Option Key
 |.int n=>some (.inl n)
 |.str x=>some (.inr x)
 |_=>none
theorem y2S{K:aa}{H:Hp}{B:Addr->Prop}{d:D}{k:Key}{v:V}(e:y2c d=some k)(r:Rep K H B d v):v=kV k:=by
 unfold y2c at e
 split at e
 ·cases e;unfold Rep at r;exact r
 ·cases e;unfold Rep at r;exact r
 ·cases e
def setK(ks:List Key)(ds:List D)(k:Key)(d:D):List D:=match ks,ds with
 |k'::ks,e::ds=>(if k'=k then d else e)::setK ks ds k d
 |_,_=>[]
def y0J(ks:List Key)(k:Key):Bool:=ks.any fun k'=>decide (k'=k)
def y0z(ks:List Key)(k:Key):List Key:=if y0J ks k=true then ks else ks++[k]
def y0y(ks:List Key)(ds:List D)(k:Key)(d:D):List D:=if y0J ks k=true then setK ks ds k d else ds++[d]
theorem y2d{k:Key}{kvs:List (Key×V)}{ks:List Key}(e:kvs.map (·.1)=ks):(kvs.any fun kv=>decide (kv.1=k))=y0J ks k:=by
 subst e
 unfold y0J
 rw[cE]
 rfl
theorem y4n{K:aa}{H:Hp}{k:Key}{d:D}{v:V}(td:Tree K H d v []):∀{kvs:List (Key×V)} {ds:List D},Trees K H ds (kvs.map (·.2)) []->Trees K H (setK (kvs.map (·.1)) ds k d) ((kvs.map fun kv=>if kv.1=k then(kv.1,v)else kv).map (·.2)) []
 |[],ds,t=>by
  cases ds with
  |nil=>exact .nil
  |cons e ds=>unfold Trees at t;obtain⟨_,_,_,_,z,_⟩:=t;cases z
 |p::r,[],t=>by obtain⟨z,_⟩:=t;cases z
 |p::r,e::ds,t=>by
  unfold Trees at t
  obtain⟨x,xs,B,C,e1,t1,t2,e2⟩:=t
  cases e1
  obtain⟨rfl,rfl⟩:=List.append_eq_nil_iff.mp e2.symm
  have ih:=y4n (k:=k) td (kvs:=r) t2
  rw[ay,ay,ay]
  unfold setK Trees
  refine⟨_,_,[],[],rfl,?_,ih,rfl⟩
  by_cases h:p.1=k
  ·rw[if_pos h,if_pos h];exact td
  ·rw[if_neg h,if_neg h];exact t1
theorem x1Q{k:Key}{v:V}{kvs:List (Key×V)}:(z7K kvs k v).map (·.1)=y0z (kvs.map (·.1)) k:=by
 unfold z7K y0z
 rw[y2d (k:=k) (kvs:=kvs) rfl]
 by_cases h:y0J (kvs.map (·.1)) k=true
 ·rw[if_pos h,if_pos h,aK]
  apply bh
  intro p _
  show(if p.1=k then(p.1,v)else p).1=p.1
  split <;> rfl
 ·rw[if_neg h,if_neg h,aD]
  rfl
theorem x1v{K:aa}{H:Hp}{k:Key}{d:D}{v:V}{kvs:List (Key×V)}{ds:List D}(td:Tree K H d v [])(t:Trees K H ds (kvs.map (·.2)) []):Trees K H (y0y (kvs.map (·.1)) ds k d) ((z7K kvs k v).map (·.2)) []:=by
 unfold z7K y0y
 rw[y2d (k:=k) (kvs:=kvs) rfl]
 by_cases h:y0J (kvs.map (·.1)) k=true
 ·rw[if_pos h,if_pos h]
  exact y4n td t
 ·rw[if_neg h,if_neg h,aD]
  exact t.snoc td
theorem y3T{k:Key}{kvs:List (Key×V)}:(y3j kvs k).isSome=y0J (kvs.map (·.1)) k:=by rw[←z8U];exact y2d rfl
def inK:D->D->Option Bool:=fun x y=>match y with
 |.dct ks _=>(y2c x).map fun k=>y0J ks k
 |_=>none
def x0j(f g:DE):DS->Option Bool:=fun δ=>(f δ).bind fun x=>(g δ).bind fun y=>inK x y
def x0B(f g:DE):DS->Option Bool:=fun δ=>(x0j f g δ).map (!·)
section
variable{X:Cx}{a b o i:Expr}{f g:DE}{pos pos':Pos}
theorem y3S{δ:DS}{c:Bool}(h:x0j f g δ=some c):∃x k ks ds,f δ=some x∧y2c x=some k∧g δ=some (.dct ks ds)∧c=y0J ks k:=by
 unfold x0j at h
 cases e1:f δ with
 |none=>rw[e1]at h;cases h
 |some x=>
  rw[e1]at h
  cases e2:g δ with
  |none=>rw[e2]at h;cases h
  |some y=>
   rw[e2]at h
   have h:inK x y=some c:=h
   unfold inK at h
   split at h
   ·cases e3:y2c x with
    |none=>rw[e3]at h;cases h
    |some k=>rw[e3]at h;cases h;exact⟨x,k,_,_,rfl,e3,rfl,rfl⟩
   ·cases h
theorem pt_din(hu:X.A.units+64<fw)(ha:PD X a f)(hb:PD X b g)(hm:eZ .In b=false:=by rfl):PTD X (.Compare a [.In] [b] pos) (x0j f g):=
 (x3m (pc_din (by omega) ha hb) hm).imp fun σ H Q ⟨B,δ,c,hB,S,q,k⟩=>by
  obtain⟨x,ky,ks,ds,e1,e2,e3,rfl⟩:=y3S q
  refine⟨B,δ,x,hB,S,e1,fun v H1 s1 r1=>⟨B,δ,_,hB.mono s1,S.mono s1,e3,fun w H2 s2 r2=>?_⟩⟩
  unfold Rep at r2
  obtain⟨p,kvs,rfl,n,hp,ek,rs⟩:=r2
  have ev:=y2S e2 r1
  subst ev
  refine⟨p,y3j kvs ky,rfl,DGet.k hp,_,rfl,?_⟩
  rw[y3T,ek]
  exact k H2 (s1.trans s2)
theorem pt_dnin(hu:X.A.units+64<fw)(ha:PD X a f)(hb:PD X b g)(hm:eZ .NotIn b=false:=by rfl):PTD X (.Compare a [.NotIn] [b] pos) (x0B f g):=
 (x3m (y5Y (by omega) ha hb) hm).imp fun σ H Q ⟨B,δ,c,hB,S,q,k⟩=>by
  unfold x0B at q
  cases e0:x0j f g δ with
  |none=>rw[e0]at q;cases q
  |some c0=>
  rw[e0]at q
  cases q
  obtain⟨x,ky,ks,ds,e1,e2,e3,rfl⟩:=y3S e0
  refine⟨B,δ,x,hB,S,e1,fun v H1 s1 r1=>⟨B,δ,_,hB.mono s1,S.mono s1,e3,fun w H2 s2 r2=>?_⟩⟩
  unfold Rep at r2
  obtain⟨p,kvs,rfl,n,hp,ek,rs⟩:=r2
  have ev:=y2S e2 r1
  subst ev
  refine⟨p,y3j kvs ky,rfl,DGet.k hp,_,rfl,?_⟩
  rw[y3T,ek]
  exact k H2 (s1.trans s2)
theorem pn_dnew:PN X (.Dict [] [] pos) (dC (.dct [] [])):=pe_dnewK.imp fun σ H Q ⟨δ,d,S,q,k⟩=>by
 cases q
 intro p hp
 refine k _ _ [p] (z0n hp) ?_ (aw.mpr ⟨fun z=>(nomatch z),bc⟩) fun a ha=>?_
 ·unfold Tree
  exact⟨p,[],[],rfl,z0o,rfl,.nil,rfl⟩
 ·rw[aq.mp ha];exact hp
variable{H0:Hp}{B0:Addr->Prop}{fr:Bool}{RX:XR}{x:Str}{px:Pos}{ke e:Expr}
def dput(i:Nat)(fk fv:DE):SS->Option Out:=fun δ=>(fv (z0A δ)).bind fun d=>if d.imm=true then(fk (z0A δ)).bind fun dk=>(match y2c dk,δ[i]? with
 |some k,some (some (.ow (.dct ks ds)))=>if z2T ds=true∧ks.length<sizeLine then some (.nx ((z0y i δ).set i (some (.ow (.dct (y0z ks k) (y0y ks ds k d))))))else none
 |_,_=>none)else none
theorem y7i{K:aa}{H:Hp}{ds:List D}{xs:List V}{A:List Addr}(t:Trees K H ds xs A)(h:z2T ds=true):Trees K H ds xs []:=Reps.immTree (B:=fun _=>False) ds h (t.rep ds fun _ _ z=>z)
theorem x2A{i:Nat}{fk fv:DE}(hu:X.A.units+64<fw)(hx:PE X (.Name x px) (y5k i))(hk:PD X ke fk)(hv:PD X e fv)
  (hs:swapsWith e (some (.Subscript (.Name x px) ke pos')) pos.line X.env=pure false:=by rfl):
  PS X (.Assign [.Subscript (.Name x px) ke pos'] e pos) (tS X.K H0 B0 fr RX (dput i fk fv)):=
 PS.imp (ps_dput (by omega) hx hk hv hs) fun D σ H ⟨δ,R,o,rs,q,kk⟩=>by
  unfold dput at q
  cases e1:fv (z0A δ)with
  |none=>rw[e1]at q;cases q
  |some d=>
  rw[e1,av]at q
  split at q
  case isFalse=>cases q
  case isTrue hi=>
  cases e2:fk (z0A δ)with
  |none=>rw[e2]at q;cases q
  |some dk=>
  rw[e2,av]at q
  split at q
  case h_2=>cases q
  case h_1 k ks ds e3 ei=>
  split at q
  case isFalse=>cases q
  case isTrue hc=>
  cases q
  obtain⟨v0,ev,t0,nd⟩:=rs.ow i _ ei
  unfold Tree at t0
  obtain⟨a,kvs,A,rfl,ha,ek,ts,eR⟩:=t0
  have ts:=y7i ts hc.1
  refine⟨noB,z0A δ,d,.no,rs.all,e1,fun v H1 s1 r1=>⟨.ref a,ev,noB,z0A δ,dk,.no,rs.all.mono s1,e2,fun kv H2 s2 r2=>?_⟩⟩
  have ekv:=y2S e3 r2
  subst ekv
  subst ek
  have ha2:H2 a=some (.dK kvs):=s2 _ _ (s1 _ _ ha)
  refine⟨a,_,rfl,DPut.k ha2 (by rw[←ah (f:=(·.1))];exact hc.2),?_⟩
  have haR:a∈R i:=by rw[eR];exact af
  have mu:Mut (H2 a):=by rw[ha2];exact trivial
  have td:Tree X.K H2 d v []:=(r1.immTree d hi).mono s2
  have tp:=x1v (k:=k) td (ts.mono (s1.trans s2))
  have P:=rs.rewrite (d':=.dct (y0z (kvs.map (·.1)) k) (y0y (kvs.map (·.1)) ds k d)) (a:=a) (o:=.dK (z7K kvs k v)) (A':=[a]) (s1.trans s2) ei ev haR (by
   unfold Tree
   exact⟨a,z7K kvs k v,[],rfl,z0o,x1Q,Trees.keep (Keep.upd (K:=X.K) (B:=fun x=>x=a) rfl mu).i _ tp fun b hb=>(nomatch hb),rfl⟩) (aw.mpr ⟨fun z=>(nomatch z),bc⟩) fun b hb=>by
    rw[aq.mp hb];exact .inl haR
  exact kk σ _ _ P.1 P.2
end
end L2
namespace HT
open PySem PySem.Spec PyProof.Rows
section
end
end HT
namespace L2
open PySem PySem.Spec PyProof.Rows
section
variable{X:Cx}{pos p2:Pos}
variable{f g:DE}
variable{a b:Expr}
def catLs:D->D->Option (List D)
 |.lst ds,.lst es=>if ds.length+es.length≤sizeLine then some (ds++es)else none
 |_,_=>none
def x0i(f g:DE):DS->Option (List D):=fun δ=>(f δ).bind fun x=>(g δ).bind fun y=>catLs x y
theorem y1J(ha:PD X a f)(hb:PD X b g):PF X (.BinOp a .Add b pos) (x0i f g):=(y5G y8N ha hb).imp fun σ H Q ⟨B,δ,ds,hB,S,q,k⟩=>by
 unfold x0i at q
 cases e1:f δ with
 |none=>rw[e1]at q;cases q
 |some x=>
 rw[e1,av]at q
 cases e2:g δ with
 |none=>rw[e2]at q;cases q
 |some y=>
 rw[e2,av]at q
 unfold catLs at q
 split at q
 case h_2=>cases q
 case h_1 xs ys=>
 split at q
 case isFalse=>cases q
 case isTrue hl=>
 cases q
 refine⟨B,δ,_,hB,S,e1,fun v H1 s1 r1=>⟨B,δ,_,hB.mono s1,S.mono s1,e2,fun v2 H2 s2 r2=>?_⟩⟩
 unfold Rep at r1 r2
 obtain⟨p1,vs,rfl,n1,h1,rs1⟩:=r1
 obtain⟨p2,ws,rfl,n2,h2,rs2⟩:=r2
 refine⟨p1,p2,vs,ws,rfl,rfl,s2 _ _ h1,h2,by rw[←rs1.length,←rs2.length];exact hl,fun p hp=>?_⟩
 exact k p _ _ ((s1.trans s2).trans (z0n hp)) ((s1.trans s2).free hp) z0o (((rs1.mono s2).append rs2).mono (z0n hp))
end
section
end
section
end
def cntR(lo hi c:Int):Nat:=if lo<hi then((hi - lo - 1) / c+1).toNat else 0
def Itr3(lo c:Int)(n:Nat):It:=⟨fun i _=>i<n,fun i H x H'=>H'=H∧x = .int (lo+(i:Nat)*c),fun i _=>n≤i⟩
theorem y1V{P:dw}{w:eX}{K:aa}{tg:Expr}(it:Addr)(lo c:Int)(n:Nat):Turn P w K tg (Itr3 lo c n) [it] it (fun i h=>IsRangeIter h it (lo+(i:Nat)*c) ((n:Int) - (i:Nat)) c) where
 mem:=by simp
 obj:=fun i h st b hb=>by
  have e:b=it:=by simpa using hb
  subst e
  exact⟨_,st,fun v z=>by
   have z':Data.fields _=Data.cell v:=z
   cases z'⟩
 keep:=fun i h h' st k=>k it (by simp) _ st
 item:=by
  intro X hP hw hK hc i pins s σ H E I hf st hg
  subst hP hw hK
  obtain⟨f0,f1,f2,f3,f4,f5⟩:=hf it (by simp)
  have W:=Walks.range (prog:=X.prog) (w:=X.w) (I.ok.hd hc) it lo c n
  refine W.item i s _ _ hg st fun v h' tk hv st' kk=>?_
  obtain⟨t,rfl⟩:=hv
  have I1:Inv X pins σ H { s with heap:=h',toks:=tk }:=I.turned (fun b o hb e=>kk b o (by simpa using hb) e) f0 f1 f3 f4 f5
  exact⟨_,rfl,x0w (s:={ s with heap:=h',toks:=tk }) (n := "range_iterator") st' rfl rfl (by decide) ⟨.int (lo+(i:Nat)*c),H,I1,⟨t,rfl⟩,⟨rfl,rfl⟩,st',fun b hb=>(hf b hb).1⟩⟩
 done:=by
  intro X hP hw hK hc i pins s σ H E I hf st hg
  subst hP hw hK
  obtain⟨f0,f1,f2,f3,f4,f5⟩:=hf it (by simp)
  exact wpAny_pyNext_range_end (I.ok.hd hc) st (by have:n≤i:=hg;omega) fun h' eb=>⟨rfl,I.turned (t':=s.toks) (fun b o hb e=>eb b o hb e) f0 f1 f3 f4 f5⟩
 self:=fun _ _ _ _ _ st h=>wpAny_pyIter_rangeiter st h
section
theorem Vals.three:∀{x y z:V} {us:List Value},Vals [x,y,z] us->∃u v w,us=[u,v,w]∧RelV x u∧RelV y v∧RelV z w
 |_,_,_,_,.cons r (.cons q (.cons p .nil))=>⟨_,_,_,rfl,r,q,p⟩
def y8S(lo c:Int)(n:Nat):List D:=(ad n).map fun i=>.int (lo+(i:Nat)*c)
theorem x1l{lo c:Int}{n i:Nat}(h:i<n):(y8S lo c n)[i]? = some (.int (lo+(i:Nat)*c)):=by
 unfold y8S
 rw[aB,cC h]
 rfl
theorem z8Q{lo c:Int}{n:Nat}:(y8S lo c n).length=n:=by simp[y8S]
theorem x0A{K:aa}{H:Hp}{B:Addr->Prop}{lo c:Int}{n:Nat}:ItD K (Itr3 lo c n) H B (y8S lo c n):=by
 refine⟨fun i H' _ hi=>?_,fun i H' _ hi=>?_,fun i H' x H2 _ y=>?_⟩
 ·rw[z8Q]at hi;exact hi
 ·rw[z8Q]at hi;exact hi
 ·obtain⟨e,y⟩:=y
  subst e y
  exact⟨.refl _,.int (lo+(i:Nat)*c),fun h=>x1l (by rwa [z8Q]at h),rfl⟩
def rng3:Option D->Option D->Option D->Option (List D)
 |some (.int i),some (.int j),some (.int c)=>if -(2 ^ 61)≤i∧i<2 ^ 61∧-(2 ^ 61)≤j∧j<2 ^ 61∧0<c∧c<2 ^ 30 then some (y8S i c (cntR i j c))else none
 |_,_,_=>none
end
def z3H(c:DS->Option Bool)(b:SS->Option Out):Nat->SS->Option Out
 |0,_=>none
 |n+1,δ=>(c (z0A δ)).bind fun k=>if k=true then(b δ).bind fun o=>(match o with
  |.nx δ'=>z3H c b n δ'
  |.ct δ'=>z3H c b n δ'
  |.bk δ'=>some (.nx δ')
  |.rt d=>some (.rt d)
  |.rb d δ'=>some (.rb d δ')
  |.ex c δ'=>some (.ex c δ'))else some (.nx δ)
section
variable{X:Cx}{H0:Hp}{B0:Addr->Prop}{fr:Bool}{RX:XR}{pos:Pos}
theorem y2Q{c:Expr}{body:List Stmt}{fc:DS->Option Bool}{g:SS->Option Out}(n:Nat)(hp:PassesOwn (model X.prog X.w) X.A X.env X.xe)(hc:PTD X c fc)(hb:PSs X body (tS X.K H0 B0 fr RX g)):PS X (.While c body [] pos) (tS X.K H0 B0 fr RX (z3H fc g n)):=
 PS.imp (x0o hp hc hb) fun D σ H ⟨δ,R,o,rs,q,k⟩=>by
  refine⟨fun m σ' H'=>∃δ' R',RS X.K H0 B0 H' σ' δ' R'∧Stp R H R' H'∧z3H fc g m δ'=some o,⟨n,δ,R,rs,.refl R H,q⟩,?_⟩
  rintro m σ' H' ⟨δ',R',rs',s',q'⟩
  cases m with
  |zero=>cases q'
  |succ m=>
   unfold z3H at q'
   cases ec:fc (z0A δ')with
   |none=>rw[ec]at q';cases q'
   |some kk=>
    rw[ec,av]at q'
    refine⟨noB,z0A δ',kk,.no,rs'.all,ec,fun H1 s1=>?_⟩
    have rs1:=rs'.mono s1
    have st1:Stp R H R' H1:=s'.trans (.same s1)
    cases kk with
    |false=>
     rw[if_neg ak]at q'
     cases q'
     exact k σ' H1 R' rs1 st1
    |true=>
     rw[if_pos rfl]at q'
     cases eb:g δ' with
     |none=>rw[eb]at q';cases q'
     |some ob=>
      rw[eb,av]at q'
      refine⟨fun σ2 H2=>∃δ2 R2,RS X.K H0 B0 H2 σ2 δ2 R2∧Stp R H R2 H2∧z3H fc g m δ2=some o,fun σ2 H2 z=>⟨m,Nat.lt_succ_self m,z⟩,δ',R',ob,rs1,eb,?_⟩
      cases ob with
      |nx δ2=>exact fun σ3 H3 R3 rs3 s3=>⟨δ2,R3,rs3,st1.trans s3,q'⟩
      |ct δ2=>exact fun σ3 H3 R3 rs3 s3=>⟨δ2,R3,rs3,st1.trans s3,q'⟩
      |bk δ2=>
       cases q'
       exact fun σ3 H3 R3 rs3 s3=>k σ3 H3 R3 rs3 (st1.trans s3)
      |rt d=>
       cases q'
       exact k.back st1
      |rb d δ2=>
       cases q'
       exact k.back st1
      |ex c δ2=>
       cases q'
       exact k.back st1
end
section
variable{X:Cx}{a b:Expr}{f:DE}{pos:Pos}
variable{H0:Hp}{B0:Addr->Prop}{fr:Bool}{RX:XR}{x:Str}{px ap cp:Pos}{e:Expr}
def y9Y(i:Nat)(f:DE):SS->Option Out:=fun δ=>(f (z0A δ)).bind fun d=>(match d,δ[i]? with
 |.lst es,some (some (.ow (.lst ds)))=>if ds.length+es.length≤sizeLine then some (.nx ((z0y i δ).set i (some (.ow (.lst (ds++es))))))else none
 |_,_=>none)
theorem y8Q{i:Nat}(hx:PE X (.Name x px) (y5k i))(he:PN X e f)(hbase:ff (.Name x px) "extend" X.env (eval (.Name x px) X.env)=eval (.Name x px) X.env:=by rfl)
  (hfew:((e9 cp (starEach [e] X.env)).all (fun x=>!x.1)&&(backToKw cp (keywordEach [] X.env)).all (fun x=>x.1.isSome)&&decide ([e].length+([]:List fg).length+(if([]:List fg).isEmpty then 0 else 1)<30))=true:=by rfl)
  (hline:(ap.endLine==cp.line)=true:=by rfl) (hs:starEach [e] X.env=(false,eval e X.env)::starEach [] X.env:=by rfl) (hsw:swapsWith (.Call (.Attribute (.Name x px) "extend" ap) [e] [] cp) none pos.line X.env=pure false:=by rfl):
  PS X (.Expr (.Call (.Attribute (.Name x px) "extend" ap) [e] [] cp) pos) (tS X.K H0 B0 fr RX (y9Y i f)):=
 PS.imp (z8t (x0H PySem.F.plainAttrs_list PySem.F.slot_list_extend PySem.F.type_list_extend y9K hx (z0S he pa_nil hs) hbase hfew hline hs rfl) hsw) fun D σ H ⟨δ,R,o,rs,q,k⟩=>by
  unfold y9Y at q
  cases e1:f (z0A δ)with
  |none=>rw[e1]at q;cases q
  |some d=>
  rw[e1,av]at q
  split at q
  case h_2=>cases q
  case h_1 es ds ei=>
  split at q
  case isFalse=>cases q
  case isTrue hl=>
  cases q
  obtain⟨a,xs,A,ev,ha,ts,eR,nd⟩:=rs.top ei
  refine⟨.ref a,ev,.inl ⟨rfl,xs,SqL.of ha⟩,z0A δ,_,rs.all,e1,fun y H2 C s2 t2 nC fC=>?_⟩
  unfold Tree at t2
  obtain⟨b,zs,C',rfl,hb,tz,rfl⟩:=t2
  have nC':=(aw.mp nC).2
  refine⟨a,b,xs,zs,rfl,rfl,s2 _ _ ha,hb,by rw[←ts.length,←tz.length];exact hl,?_⟩
  have hAC:(A++C').Nodup:=bT.mpr ⟨(aw.mp nd).2,nC',fun p hp c hc z=>by
   subst z
   obtain⟨u,q,_⟩:=Trees.held ds ts p hp
   rw[fC p (ae _ hc)]at q;cases q⟩
  have P:=rs.put0 s2 ei ev eR nd ((ts.mono s2).append tz) hAC fun p hp=>(ar.mp hp).imp id fun z=>fC p (ae _ z)
  exact k σ _ _ P.1 P.2
end
def insS(x:Int):List Int->List Int
 |[]=>[x]
 |y::r=>if x≤y then x::y::r else y::insS x r
def x1D:List Int->List Int
 |[]=>[]
 |x::r=>insS x (x1D r)
theorem z6s(x:Int):∀l:List Int,(insS x l).Perm (x::l)
 |[]=>.refl _
 |y::r=>by
  unfold insS
  split
  ·exact .refl _
  ·exact((z6s x r).cons y).trans (.swap x y r)
theorem y0G:∀l:List Int,(x1D l).Perm l
 |[]=>.refl _
 |x::r=>(z6s x _).trans ((y0G r).cons x)
theorem z7w{x:Int}:∀{l:List Int},l.Pairwise (· ≤ ·)->(insS x l).Pairwise (· ≤ ·)
 |[],_=>by unfold insS;simp
 |y::r,h=>by
  unfold insS
  split
  ·rename_i hxy
   refine ba.mpr ⟨fun z hz=>?_,h⟩
   rcases ao.mp hz with e | e
   ·omega
   ·have:=(ba.mp h).1 z e
    omega
  ·rename_i hxy
   refine ba.mpr ⟨fun z hz=>?_,z7w (ba.mp h).2⟩
   rcases ao.mp ((z6s x r).mem_iff.mp hz)with e | e
   ·omega
   ·exact(ba.mp h).1 z e
theorem z6F:∀l:List Int,(x1D l).Pairwise (· ≤ ·)
 |[]=>.nil
 |_::r=>z7w (z6F r)
theorem z8e:∀{a b:List Int},a.Perm b->a.Pairwise (· ≤ ·)->b.Pairwise (· ≤ ·)->a=b
 |[],b,p,_,_=>(List.nil_perm.mp p).symm
 |x::a,[],p,_,_=>by have:=p.length_eq;simp at this
 |x::a,y::b,p,ha,hb=>by
  obtain⟨ha1,ha2⟩:=ba.mp ha
  obtain⟨hb1,hb2⟩:=ba.mp hb
  have hxy:x=y:=by
   have h1:x∈y::b:=p.mem_iff.mp af
   have h2:y∈x::a:=p.mem_iff.mpr af
   rcases ao.mp h1 with e | e
   ·exact e
   ·rcases ao.mp h2 with e' | e'
    ·exact e'.symm
    ·have:=ha1 y e'
     have:=hb1 x e
     omega
  subst hxy
  rw[z8e (List.perm_cons x |>.mp p) ha2 hb2]
theorem y8A{a l:List Int}(p:a.Perm l)(h:a.Pairwise (· ≤ ·)):a=x1D l:=z8e (p.trans (y0G l).symm) h (z6F l)
section
end
section
theorem intsV:∀{ns:List Int} {vs:List Value},IntsAre vs ns->Vals (ns.map V.int) vs
 |_,_,.nil=>.nil
 |_,_,.cons n t r=>.cons ⟨t,rfl⟩ (intsV r)
end
section
end
section
end
section
end
def Thr(h:Heap)(e T:Addr)(cls:Value):Prop:=∃oe vs oT ts,h.get? e=some oe∧oe.cls=cls∧oe.data = .fields vs∧vs[1]? = some (.ref T)∧T≠e∧h.get? T=some oT∧oT.data = .fields ts∧ts[3]? = some .none∧oe.dict=none
def Thr0(h:Heap)(e:Addr)(cls:Value):Prop:=∃oe vs,h.get? e=some oe∧oe.cls=cls∧oe.data = .fields vs∧vs[1]? = some .none∧oe.dict=none
structure Gone(S ch:List Addr)(e:Addr)(cls:Value)(h h':Heap):Prop where
 keep:∀b o,b∉S->b∉ch->h.get? b=some o->h'.get? b=some o
 slot:∀b o,b∈S->b∉ch->h.get? b=some o->∃sl,h'.get? b=some { o with slots:=sl }
 there:∀b o,h.get? b=some o->∃o',h'.get? b=some o'
 thr:∃T,h.objs.size≤T∧Thr h' e T cls
section
variable{M:Model}{A:Around}{E:Value->Shared->Prop}{s:Shared}
theorem x0P{o:Obj}{f:Array Value->Array Value}(h:o.dict=none):(Obj.mapFields f o).dict=none:=by
 unfold Obj.mapFields
 split <;> exact h
theorem y4t{base:Heap}{env:Env}{outer:List Env}{L e:Addr}{oe:Obj}{vs:Array Value}{head:Value}{hadNext:Bool}{Q:Unit->Shared->Prop}
  (hfr:A.frames=some (env::outer)) (hl:s.heap.FunFrames base (env::outer)) (hf:env.frame=some L)
  (he:s.heap.get? e=some oe) (hd:oe.data = .fields vs) (hsz:1<vs.size) (hdn:oe.dict=none)
  (h:∀h',Gone (frs (env::outer)) [e] e oe.cls s.heap h'->Q () { s with heap:=h' }):
  wpAny M A (do let a ←frameOf env;let pl ←entryPlaceOf L hadNext;let b ←EntryCells.newEntry head a .none (rawInt L) .none pl;setField (.ref e) 1 b) (fun _ s'=>wpAny M A (setFlight (.ref e) none) Q E s') E s:=by
 have hene:e∉frs (env::outer):=fun hm=>by
  obtain⟨_,o,ho,hnf⟩:=hl.mem hm
  rw[he]at ho;injection ho with ho;subst ho;exact hnf vs hd
 refine wpAny_bind (wpAny_frameOf_fun hfr hl hf fun h₁ hs₁=>?_)
 refine wpAny_bind (wpAny_entryPlaceOf fun pl hpl=>?_)
 unfold EntryCells.newEntry newFields
 refine wpAny_bind (wpAny_newObj_type ?_ (hpl.sizeOk5 _ _ _ _ _))
 have he₁:h₁.get? e=some oe:=(hs₁.2.1 e hene).trans he
 generalize hob:({ cls:=.type "traceback",dict:=none,data:=.fields ([head,.ref L,.none,rawInt L,.none]++(if pl.isEmpty then am 6 Value.none else pl)).toArray }:Obj)=ob
 have hobd:ob.data = .fields ([head,.ref L,.none,rawInt L,.none]++(if pl.isEmpty then am 6 Value.none else pl)).toArray:=by rw[←hob]
 have hobf:ob.isFreed=false:=by rw[←hob];rfl
 have he₂:=Heap.get?_push_of_some (h:=h₁) ob he₁
 refine wpAny_setField he₂ hd hsz ?_
 have hTe:h₁.objs.size≠e:=cF (Heap.lt_size he₁)
 have hd₃:=Obj.data_mapFields hd (·.setIfInBounds 1 (Value.ref h₁.objs.size))
 have he₃:=Heap.get?_update_self (Obj.mapFields (·.setIfInBounds 1 (Value.ref h₁.objs.size))) he₂ (Obj.isFreed_of_fields hd₃)
 have hT₃:=(Heap.get?_update_other (h₁.push ob) (Obj.mapFields (·.setIfInBounds 1 (Value.ref h₁.objs.size))) (Ne.symm hTe)).trans (Heap.get?_push_size h₁ hobf)
 unfold setFlight
 refine wpAny_bind (wpAny_field he₃ hd₃ (x:=.ref h₁.objs.size) (by simp[hsz]) ?_)
 rw[if_pos (show(Value.ref h₁.objs.size != Value.none)=true from by simp)]
 refine wpAny_setField hT₃ hobd (by simp only[au,aC,aX,dG] <;> omega) (h _ ?_)
 have keep:∀b o,b≠e->h₁.get? b=some o →
   (((h₁.push ob).update e (Obj.mapFields (·.setIfInBounds 1 (Value.ref h₁.objs.size)))).update h₁.objs.size (Obj.mapFields (·.setIfInBounds 3 ((none:Option Addr).elim Value.none fun f=>rawInt f)))).get? b=some o:=fun b o hbe hb=>by
  have hbT:h₁.objs.size≠b:=cF (Heap.lt_size hb)
  rw[Heap.get?_update_other _ _ hbT,Heap.get?_update_other _ _ (Ne.symm hbe)]
  exact Heap.get?_push_of_some _ hb
 have heF:(((h₁.push ob).update e (Obj.mapFields (·.setIfInBounds 1 (Value.ref h₁.objs.size)))).update h₁.objs.size (Obj.mapFields (·.setIfInBounds 3 ((none:Option Addr).elim Value.none fun f=>rawInt f)))).get? e=some (Obj.mapFields (·.setIfInBounds 1 (Value.ref h₁.objs.size)) oe):=by
  rw[Heap.get?_update_other _ _ hTe];exact he₃
 refine⟨fun b o hb hc e1=>?_,fun b o hb hc e1=>?_,fun b o e1=>?_,h₁.objs.size,?_,?_⟩
 ·exact keep b o (fun z=>hc (by simp[z])) ((hs₁.2.1 b hb).trans e1)
 ·obtain⟨sl,e2⟩:=hs₁.2.2 b o e1
  exact⟨sl,keep b _ (fun z=>hc (by simp[z])) e2⟩
 ·by_cases hb:b=e
  ·exact⟨Obj.mapFields (·.setIfInBounds 1 (Value.ref h₁.objs.size)) oe,by rw[hb];exact heF⟩
  ·obtain⟨sl,e2⟩:=hs₁.2.2 b o e1
   exact⟨_,keep b _ hb e2⟩
 ·rw[hs₁.1]
  exact aj _
 ·exact⟨_,_,_,_,heF,Obj.cls_mapFields _ _,hd₃,by simp[hsz],hTe,Heap.get?_update_self _ hT₃ (Obj.isFreed_of_fields (Obj.data_mapFields hobd _)),Obj.data_mapFields hobd _,by first | (simp;done) | (rcases hpl with rfl | ⟨_,_,_,_,_,_,_,rfl⟩ <;> simp),x0P hdn⟩
theorem y5y{base:Heap}{env:Env}{outer:List Env}{L e:Addr}{cls:Value}{Q:Unit->Shared->Prop}
  (hfr:A.frames=some (env::outer)) (hl:s.heap.FunFrames base (env::outer)) (hf:env.frame=some L) (ht:Thr0 s.heap e cls)
  (h:∀h',Gone (frs (env::outer)) [e] e cls s.heap h'->Q () { s with heap:=h' }):wpAny M A (noteFrame (.ref e) env) (fun _ s'=>wpAny M A (setFlight (.ref e) none) Q E s') E s:=by
 obtain⟨oe,vs,he,rfl,hd,h1,hdn⟩:=ht
 unfold noteFrame
 simp only[hf]
 refine wpAny_bind (wpAny_field he hd h1 ?_)
 rw[if_neg (by decide)]
 exact y4t hfr hl hf he hd (cI.mp h1).1 hdn h
theorem y7h{base:Heap}{env:Env}{outer:List Env}{L e T:Addr}{cls:Value}{Q:Unit->Shared->Prop}
  (hfr:A.frames=some (env::outer)) (hl:s.heap.FunFrames base (env::outer)) (hf:env.frame=some L) (ht:Thr s.heap e T cls)
  (h:∀h',Gone (frs (env::outer)) [e,T] e cls s.heap h'->Q () { s with heap:=h' }):wpAny M A (noteFrame (.ref e) env) (fun _ s'=>wpAny M A (setFlight (.ref e) none) Q E s') E s:=by
 obtain⟨oe,vs,oT,ts,he,rfl,hd,h1,hTe,hT,hdT,h3,hdn⟩:=ht
 unfold noteFrame
 simp only[hf]
 refine wpAny_bind (wpAny_field he hd h1 ?_)
 rw[if_pos (show(Value.ref T != Value.none)=true from by simp)]
 refine wpAny_bind (wpAny_field hT hdT h3 ?_)
 rw[if_neg (show ¬ ((Value.none==rawInt L)=true) from by simp[rawInt])]
 refine wpAny_bind (wpAny_setField hT hdT (cI.mp h3).1 ?_)
 have other:∀b,b≠T->(s.heap.update T (Obj.mapFields (·.setIfInBounds 3 Value.none))).get? b=s.heap.get? b:=fun b hb=>Heap.get?_update_other _ _ (Ne.symm hb)
 have noRecord:∀b o,s.heap.get? b=some o->(∀vs,o.data≠.fields vs)->b≠T:=fun b o hb hnf q=>by
  rw[q,hT]at hb;injection hb with hb;subst hb;exact hnf ts hdT
 refine y4t hfr (hl.of_keeps fun b o hb hnf=>⟨o,(other b (noRecord b o hb hnf)).trans hb,rfl⟩) hf ((other e (Ne.symm hTe)).trans he) hd (cI.mp h1).1 hdn fun h' G=>h h' ?_
 refine⟨fun b o hb hc e1=>G.keep b o hb (fun z=>hc (ao.mpr (.inl (aq.mp z)))) ((other b fun z=>hc (by simp[z])).trans e1),fun b o hb hc e1=>G.slot b o hb (fun z=>hc (ao.mpr (.inl (aq.mp z)))) ((other b fun z=>hc (by simp[z])).trans e1),fun b o e1=>?_,?_⟩
 ·by_cases hb:b=T
  ·have e2:(s.heap.update T (Obj.mapFields (·.setIfInBounds 3 Value.none))).get? b=some (Obj.mapFields (·.setIfInBounds 3 Value.none) oT):=by
    rw[hb]
    exact Heap.get?_update_self _ hT (Obj.isFreed_of_fields (Obj.data_mapFields hdT _))
   exact G.there b _ e2
  ·exact G.there b o ((other b hb).trans e1)
 ·obtain⟨T',h1,h2⟩:=G.thr
  exact⟨T',by rwa [Heap.size_after_update]at h1,h2⟩
theorem z8m{env:Env}{e:Value}{Q:Unit->Shared->Prop}(h:wpAny M A (noteFrame e env) (fun _ s'=>wpAny M A (setFlight e none) Q E s') E s):wpAny M A (leaving env e) Q E s:=by
 unfold leaving
 exact wpAny_bind h
end
theorem ObjOk.some{P:dw}{w:eX}{H:Hp}{h:Heap}{a:Addr}{o:HO}(x:ObjOk P w H h a o):∃ob,h.get? a=Option.some ob:=by
 cases q:h.get? a with
 |some ob=>exact⟨ob,rfl⟩
 |none=>
  have y:ObjOk P w H h a o:=x
  induction o with
  |lst xs=>obtain⟨_,_,_,_,e⟩:=x;rw[q]at e;cases e
  |tup xs=>obtain⟨_,_,_,_,e,_⟩:=x;rw[q]at e;cases e
  |dK kvs=>obtain⟨_,_,_,_,_,_,_,e,_⟩:=x;rw[q]at e;cases e
  |dT kvs=>obtain⟨_,_,_,_,_,_,_,e,_⟩:=x;rw[q]at e;cases e
  |set S n=>obtain⟨_,_,_,_,e,_⟩:=x;rw[q]at e;cases e
  |ins C dx fs=>obtain⟨_,_,_,e,_⟩:=x;rw[q]at e;cases e
  |own y=>obtain⟨_,e⟩:=x;rw[q]at e;cases e
  |xd fs=>obtain⟨_,⟨_,_,_,e,_⟩,_⟩:=x;rw[q]at e;cases e
  |met f y=>have e:=x;unfold ObjOk at e;rw[q]at e;cases e
  |rng lo hi=>obtain⟨_,_,_,e⟩:=x;rw[q]at e;cases e
  |frz ob u ih=>have e:=x.1;rw[q]at e;cases e
  |tbl ps=>have e:=x;unfold ObjOk at e;rw[q]at e;cases e
  |ext φ=>obtain⟨_,⟨_,e⟩,_⟩:=x;rw[q]at e;cases e
section
variable{X:Cx}{pins:List (Addr×Obj)}{σ:St}{H:Hp}{s:Shared}
def FpX(X:Cx)(pins:List (Addr×Obj))(H:Hp)(b:Addr):Prop:=
 H b=none∧b≠X.env.locals∧(b∈X.ex∨X.s₀.heap.get? b=none)∧(∀x c,X.env.cells.lookup x=some c->c≠b)∧∀p∈X.pn++pins,p.1≠b
theorem Inv.fpX{H':Hp}{b:Addr}(I:Inv X pins σ H s)(hb:s.heap.get? b=none)(hn:H' b=none):FpX X pins H' b:=by
 refine⟨hn,fun z=>?_,?_,fun x c e z=>?_,fun p hp z=>?_⟩
 ·obtain⟨m,⟨o,_,_,ho,_⟩,_⟩:=I.loc
  rw[←z,hb]at ho
  cases ho
 ·by_cases hx:b∈X.ex
  ·exact .inl hx
  ·refine .inr ?_
   cases q:X.s₀.heap.get? b with
   |none=>rfl
   |some o=>
    obtain⟨o',e⟩:=I.base.there b o q hx
    rw[hb]at e
    cases e
 ·obtain⟨v,o,ho,_⟩:=I.cell x c e
  rw[z,hb]at ho
  cases ho
 ·have:=(I.pin p hp).1
  rw[z,hb]at this
  cases this
theorem Inv.fresh0{b:Addr}(I:Inv X pins σ H s)(hb:s.heap.get? b=none):H b=none:=by
 cases q:H b with
 |none=>rfl
 |some u=>
  obtain⟨o,e⟩:=(I.hok b u q).some
  rw[hb]at e
  cases e
theorem Inv.gone3{ch:List Addr}{h':Heap}(I:Inv X pins σ H s)(gk:∀b o,b∉frs X.stack->b∉ch->s.heap.get? b=some o->h'.get? b=some o)(gs:∀b o,b∈frs X.stack->b∉ch->s.heap.get? b=some o->∃sl,h'.get? b=some { o with slots:=sl })(gt:∀b o,s.heap.get? b=some o->∃o',h'.get? b=some o')(hch:∀b∈ch,FpX X pins H b):Inv X pins σ H { s with heap:=h' }:=by
 have nS:∀b u,H b=some u->b∉frs X.stack:=fun b u q z=>by rw[I.stkFree b z]at q;cases q
 have nC:∀b u,H b=some u->b∉ch:=fun b u q z=>by rw[(hch b z).1]at q;cases q
 have hok:HOk X.prog X.w H h':=fun b u q=>(I.hok b u q).stay (fun c v hc e=>by
  rcases hc with rfl | z
  ·exact gk _ v (nS _ u q) (nC _ u q) e
  ·exact gk c v (nS c _ z) (nC c _ z) e) (fun _ q=>q) fun _ _ q=>q
 have any:∀b o,b∉ch->s.heap.get? b=some o->∃sl,h'.get? b=some { o with slots:=sl }:=fun b o hc q=>by
  by_cases hb:b∈frs X.stack
  ·exact gs b o hb hc q
  ·exact⟨o.slots,gk b o hb hc q⟩
 have new:∀b o,X.s₀.heap.get? b=some o->b∉X.ex->b∉ch:=fun b o q hx z=>by
  rcases (hch b z).2.2.1 with y | y
  ·exact hx y
  ·rw[y]at q;cases q
 have kp:∀b o,b≠X.env.locals->b∉X.fs->b∉ch->s.heap.get? b=some o->h'.get? b=some o:=fun b o hL hb hc q=>
  gk b o (fun z=>(ao.mp (I.stkSub b z)).elim hL hb) hc q
 have old:∀b o,X.s₀.heap.get? b=some o->b≠X.env.locals:=fun b o q=>aG (aI (Heap.lt_size q) I.ok.above)
 have cellK:∀x c,X.env.cells.lookup x=some c->∀v,s.heap.IsCell c v->h'.IsCell c v:=fun x c q v ⟨o,ho,hd⟩=>by
  obtain⟨sl,y⟩:=any c o (fun z=>(hch c z).2.2.2.1 x c q rfl) ho
  exact⟨_,y,hd⟩
 refine⟨I.ok,I.os,I.bare,⟨?_,?_,fun b o q n hx=>I.base.free b o q n hx,?_,I.base.tups,I.base.frzs,I.base.tbls⟩,?_,?_,I.free,I.freeC,?_,hok,I.len⟩
 ·exact fun b o q n hb hx=>kp b o (old b o q) hb (new b o q hx) (I.base.keep b o q n hb hx)
 ·intro b o q n hb hx
  obtain⟨sl,q1⟩:=I.base.slot b o q n hb hx
  obtain⟨sl',q2⟩:=any b _ (new b o q hx) q1
  exact⟨sl',q2⟩
 ·intro b o q hx
  obtain⟨o',q1⟩:=I.base.there b o q hx
  exact gt b o' q1
 ·obtain⟨m,⟨o,es,ep,ho,r⟩,hl⟩:=I.loc
  obtain⟨sl,hL⟩:=any _ o (fun z=>(hch _ z).2.1 rfl) ho
  refine⟨m,⟨_,es,ep,hL,r⟩,fun i x v e1 e2 e3=>?_⟩
  obtain⟨u,r,l⟩:=hl i x v e1 e2 e3
  exact⟨u,r,l.imp id fun⟨k,c,q,z⟩=>⟨k,c,q,cellK x c q _ z⟩⟩
 ·intro x c q
  obtain⟨v,z⟩:=I.cell x c q
  exact⟨v,cellK x c q v z⟩
 ·intro p hp
  obtain⟨q,n,ne,nf,d⟩:=I.pin p hp
  exact⟨kp p.1 p.2 ne nf (fun z=>(hch p.1 z).2.2.2.2 p hp rfl) q,n,ne,nf,d⟩
theorem Inv.gone{ch:List Addr}{e:Addr}{cls:Value}{h':Heap}(I:Inv X pins σ H s)(G:Gone (frs X.stack) ch e cls s.heap h')(hch:∀b∈ch,FpX X pins H b):Inv X pins σ H { s with heap:=h' }:=I.gone3 G.keep G.slot G.there hch
end
def CXE(P:dw)(w:eX):CXT:=fun outer H s E e s'=>∃(ea T:Addr) (cls:Value) (H':Hp),e = .ref ea∧s'.os=s.os∧AllBare s'.gens∧Un (frs outer) [] H H' s.heap s'.heap∧HOk P w H' s'.heap ∧
 s.heap.get? ea=none∧s.heap.get? T=none∧H' ea=none∧H' T=none∧Thr s'.heap ea T cls∧E cls none H'
section
variable{P:dw}{w:eX}{K:aa}{mg:Str->Option Value}{base:Heap}{N:List Str}{qual:Str}{scope:fu}{f:Addr}{cd:Value}{A:Around}{outer:List Env}{s:Shared}{H:Hp}{E:XK}
theorem y8v{pins:List (Addr×Obj)}{σ:St}{H1:Hp}{s1:Shared}{e:Addr}{cls:Value}(I:Inv (y1N (CXE P w) P w K mg base N qual scope f cd A outer s H E) pins σ H1 s1)
  (hf:FpX (y1N (CXE P w) P w K mg base N qual scope f cd A outer s H E) pins H1 e) (ht:Thr0 s1.heap e cls) (hE:E cls none H1):(y1N (CXE P w) P w K mg base N qual scope f cd A outer s H E).xe (.ref e) s1:=by
 refine z8m (y5y (base:=base) (outer:=outer) I.ok.frames I.stack rfl ht fun h' G=>?_)
 have I':=I.gone G fun b hb=>by rw[aq.mp hb];exact hf
 obtain⟨T,hT,th⟩:=G.thr
 have he:s.heap.get? e=none:=by
  rcases hf.2.2.1 with z | z
  ·exact absurd (show e∈([]:List Addr) from z) (by simp)
  ·exact z
 exact⟨e,T,cls,H1,rfl,I'.os,I'.bare,I'.base,I'.hok,he,Heap.get?_none_of_le (aF I.sz hT),hf.1,I.hok.fresh hT,th,hE⟩
end
section
variable{X:Cx}{x:Str}{C:Addr}{B Bn newId nid initId inN:String}{bm bmN:List Value}{np cpos pos:Pos}{e₀:Expr}{te:TE}
def tRaise(te:TE)(R:St->Hp->Prop):TS:=fun _ σ H=>te σ H fun _ H1=>R σ H1
def Want(X:Cx)(C:Addr)(R:St->Hp->Prop):Prop:=∀(pins:List (Addr×Obj)) (σ:St) (H:Hp) (s:Shared) (e:Addr),Inv X pins σ H s->FpX X pins H e->Thr0 s.heap e (.ref C)->R σ H->X.xe (.ref e) s
theorem x0x{R:St->Hp->Prop}(hc:X.calm=true)(hg:Gl X x)(O:OwnCls x C bm newId X.mg X.base)(Fn:ExcBaseFacts Bn newId inN bmN)(hBn:bm.contains (.type Bn)=true)(FB:ExcBaseFacts B nid initId bm)(hW:Want X C R)(h:PE X e₀ te)
  (he:starEach [e₀] X.env=[(false,eval e₀ X.env)]:=by rfl) (hd:(x==("__debug__" : Str))=false:=by decide):PS X (.Raise (some (.Call (.Name x np) [e₀] [] cpos)) none pos) (tRaise te R):=by
 intro pins s σ H D I hq
 obtain⟨tl,N,nm,q,bs,hdct,sn,sub,ab,col,dd,k0,k1,k2,k3,k5,mN,hC,hN,hni,T⟩:=O.obj
 refine wpAny_Raise_call_subU (C:=C) (nm:=nm) (q:=q) (N:=N) (bs:=bs) (bm:=tl) (hdct:=hdct) (sn:=sn) (sub:=sub) (ab:=ab) (col:=col) (dd:=dd) (k0:=k0) (k1:=k1) (k2:=k2) (k3:=k3) (k5:=k5)
  Fn hBn FB (mN:=mN) (T.hasType FB.hasBase) (I.ok.hd hc) (by rw[he];rfl) hni (y2v I hg O.bound ⟨rfl,?_⟩ hd)
 have ha:=(z0S h pa_nil he) cpos pins s σ H (fun vs H1=>match vs with
  |[_]=>R σ H1
  |_=>False) I hq
 rw[he]at ha ⊢
 refine Calls.evalArgs_plain (thn ha fun us s2 ⟨vs,H2,I2,r2,q2⟩=>?_)
 cases r2 with
 |nil=>exact(show False from q2).elim
 |cons r r3=>
  cases r3 with
  |cons _ _=>exact(show False from q2).elim
  |nil=>
   refine⟨rfl,by show 1≤sizeLine;rw[sizeLine_eq];omega,I2.bk _ _ hC,hN.keeps I2.bk,T.keeps I2.bk,fun h' e hm=>?_⟩
   obtain⟨t,he',_⟩:=hm.there
   have I3:Inv X pins σ H2 { s2 with heap:=h' }:=I2.kept (t':=s2.toks) hm.keeps
   exact hW pins σ H2 _ e I3 (I2.fpX hm.new (I2.fresh0 hm.new)) ⟨_,_,he',rfl,rfl,rfl,rfl⟩ q2
variable{H0:Hp}{B0:Addr->Prop}{fr:Bool}{RX:XR}
def z4Y(c:Nat)(f:DE):SS->Option Out:=fun δ=>(f (z0A δ)).map fun _=>.ex c δ
theorem s_raise{c:Nat}{f:DE}(hc:X.calm=true)(hg:Gl X x)(O:OwnCls x C bm newId X.mg X.base)(Fn:ExcBaseFacts Bn newId inN bmN)(hBn:bm.contains (.type Bn)=true)(FB:ExcBaseFacts B nid initId bm)(hW:Want X C (RX c))(h:PD X e₀ f)
  (he:starEach [e₀] X.env=[(false,eval e₀ X.env)]:=by rfl) (hd:(x==("__debug__" : Str))=false:=by decide):PS X (.Raise (some (.Call (.Name x np) [e₀] [] cpos)) none pos) (tS X.K H0 B0 fr RX (z4Y c f)):=
 PS.imp (x0x hc hg O Fn hBn FB hW h he hd) fun D σ H ⟨δ,R,o,rs,q,k⟩=>by
  unfold z4Y at q
  cases e:f (z0A δ)with
  |none=>rw[e]at q;cases q
  |some d=>
   rw[e]at q
   cases q
   exact⟨noB,z0A δ,d,.no,rs.all,e,fun v H1 s1 r1=>k σ H1 R (rs.mono s1) (.same s1)⟩
end
inductive XO where
 |val (d:D) | exc (c:Nat)
def spX(K:aa)(cl:Nat->Value)(m:List D->Option XO):Sp:=fun vs H Q E=>∃ds o,Reps K H noB ds vs∧m ds=some o∧(match o with
 |.val d=>∀v H' A,Same H H'->Tree K H' d v A->A.Nodup->(∀a∈A,H a=none)->Q v H'
 |.exc c=>∀H',Same H H'->E (cl c) none H')
def y4p(np nl:Nat)(g:SS->Option Out):List D->Option XO:=fun ds=>if ds.length=np then(match g (ds.map (fun d=>some (.sh d))++am nl none)with
 |some (.rt d)=>some (.val d)
 |some (.nx _)=>some (.val .non)
 |some (.ex c _)=>some (.exc c)
 |_=>none)else none
theorem y3i{np nl:Nat}{g:SS->Option Out}{ds:List D}{o:XO}(h:y4p np nl g ds=some o):ds.length=np:=by
 unfold y4p at h
 split at h
 ·assumption
 ·cases h
abbrev defRX(cl:Nat->Value)(E:XK):XR:=fun c _ H1=>E (cl c) none H1
section
variable{P:dw}{w:eX}{K:aa}{mg:Str->Option Value}{base:Heap}
theorem fnX{x qual:Str}{st:Stmt}{f:Addr}{fd:eY}{N ps:List Str}{k np nl:Nat}{g:SS->Option Out}{cl:Nat->Value}(F:Fun K x qual st f fd)(S:FnScope N ps (z0e st))(hnp:ps.length=np)(hN:N.length=np+nl)
  (hbody:∀(cdv:Value) (A:Around) (outer:List Env) (s:Shared) (H:Hp) (E:XK),Room k (A.deeper (envOfC qual (z0e st) s.heap.objs.size f cdv)) →
   PSs (y1N (CXE P w) P w K mg base N qual (z0e st) f cdv A outer s H E) (z1f st) (tS K H noB true (defRX cl E) g)):FnOk P w K mg base (CXE P w) (k+1) f fd ps (spX K cl (y4p np nl g)):=by
 obtain⟨oc,od,kV,doc,pm,an,cdv,ct,osl,rfl,lk,hcd⟩:=F.ex
 refine fn_of lk hcd S (fun vs H Q E h=>?_) fun A outer s H vs Q E hr h=>?_
 ·obtain⟨ds,o,r,e,_⟩:=h
  rw[←r.length,y3i e,hnp]
 ·obtain⟨ds,o,r,e,kk⟩:=h
  refine⟨_,hbody cdv A outer s H E hr,?_⟩
  have hl:=y3i e
  unfold y4p at e
  rw[if_pos hl]at e
  have rs:=z9w (nl:=nl) .no r (N:=N) (by omega)
  split at e
  ·rename_i d' eg
   cases e
   exact⟨_,_,_,rs,eg,fun v H' z _=>by
    obtain⟨A',t,nd,fr⟩:=z.2.1 rfl
    exact kk v H' A' z.1 t nd fr⟩
  ·rename_i δ' eg
   cases e
   exact⟨_,_,_,rs,eg,fun σ' H' R' rs' _=>kk .non H' [] rs'.keep ⟨rfl,rfl⟩ bc (fun a z=>nomatch z)⟩
  ·rename_i c δ' eg
   cases e
   exact⟨_,_,_,rs,eg,fun σ' H' R' rs' _=>kk H' rs'.keep⟩
  ·cases e
structure DefX(P:dw)(w:eX)(K:aa)(mg:Str->Option Value)(base:Heap)(k:Nat)(x:Str)(sp:Sp):Prop where
 ok:∃(f:Addr) (fd:eY) (ps:List Str),mg x=some (.ref f)∧bE K (.ref f)=true∧Binds K fd ps []∧FnOk P w K mg base (CXE P w) k f fd ps sp
def XW(X:Cx)(cl:Nat->Value)(RX:XR):Prop:=∀(pins:List (Addr×Obj)) (σ:St) (H:Hp) (s:Shared) (ea T:Addr) (c:Nat),Inv X pins σ H s->FpX X pins H ea->FpX X pins H T->Thr s.heap ea T (cl c)->RX c σ H->X.xe (.ref ea) s
theorem x2N{N:List Str}{qual:Str}{scope:fu}{f:Addr}{cd:Value}{A:Around}{outer:List Env}{s:Shared}{H:Hp}{E:XK}{cl:Nat->Value}:XW (y1N (CXE P w) P w K mg base N qual scope f cd A outer s H E) cl (defRX cl E):=by
 intro pins σ H1 s1 ea T c I fe fT th hE
 refine z8m (y7h (base:=base) (outer:=outer) I.ok.frames I.stack rfl th fun h' G=>?_)
 have I':=I.gone G fun b hb=>by
  rcases ao.mp hb with rfl | hb
  ·exact fe
  ·rw[aq.mp hb];exact fT
 obtain⟨T',hT,th'⟩:=G.thr
 have he:s.heap.get? ea=none:=by
  rcases fe.2.2.1 with z | z
  ·exact absurd (show ea∈([]:List Addr) from z) (by simp)
  ·exact z
 exact⟨ea,T',cl c,H1,rfl,I'.os,I'.bare,I'.base,I'.hok,he,Heap.get?_none_of_le (aF I.sz hT),fe.1,I.hok.fresh hT,th',hE⟩
theorem z8w{N:List Str}{qual:Str}{scope:fu}{f C:Addr}{cd:Value}{A:Around}{outer:List Env}{s:Shared}{H:Hp}{E:XK}{cl:Nat->Value}{c:Nat}(hc:cl c = .ref C):Want (y1N (CXE P w) P w K mg base N qual scope f cd A outer s H E) C (defRX cl E c):=
 fun pins σ H1 s1 e I hf ht hE=>y8v I hf ht (by rw[←hc];exact hE)
end
section
variable{X:Cx}{k:Nat}{f:Addr}{fd:eY}{ps:List Str}{sp:Sp}{cl:Nat->Value}{RX:XR}
theorem run_fnX{pins:List (Addr×Obj)}{σ:St}{H:Hp}{s:Shared}{Q:VK}{us:List Value}{vs:List V}(F:FnOk X.prog X.w X.K X.mg X.base (CXE X.prog X.w) k f fd ps sp)(hr:Room k X.A)(hb:Binds X.K fd ps [])(hW:XW X cl RX)
  (I:Inv X pins σ H s) (r:Vals vs us) (h:sp vs H Q (fun cls _ H'=>∃c,cls=cl c∧RX c σ H')):wpAny (model X.prog X.w) X.A (call (.ref f) us) (EP X pins σ Q) X.xe s:=by
 have hl:us.length=ps.length:=by rw[←r.length];exact F.len _ _ _ _ h
 have hb':=hb s us I.kIn (by rw[aL];exact hl)
 rw[aL]at hb'
 refine wpAny_call (codeAny_mono (F.run X.A X.stack s H ⟨us,[]⟩ us vs Q _ hr I.env0 hb' r h) fun r s' hq=>?_)
 cases r with
 |error e=>
  obtain⟨ea,T,cls,H',rfl,os,bare,un,hok,h1,h2,h3,h4,th,c,rfl,rx⟩:=hq
  exact hW pins σ H' s' ea T c (I.call' os un hok bare fun b hb=>nomatch hb) (I.fpX h1 h3) (I.fpX h2 h4) th rx
 |ok fl=>
  cases fl with
  |ret u=>exact I.after hq
  |next=>exact False.elim hq
  |brk=>exact False.elim hq
  |cont=>exact False.elim hq
end
section
variable{X:Cx}{k:Nat}{sp:Sp}{cl:Nat->Value}{RX:XR}{x:Str}{p pos:Pos}{e:Expr}{es:List Expr}{t:TA}
def tCallX(cl:Nat->Value)(RX:XR)(sp:Sp)(t:TA):TE:=fun σ H Q=>t σ H fun vs H1=>sp vs H1 Q fun cls _ H'=>∃c,cls=cl c∧RX c σ H'
theorem x1h(G:DefX X.prog X.w X.K X.mg X.base k x sp)(hr:Room k X.A)(hg:Gl X x)(hW:XW X cl RX)(ha:PA X (e::es) t)(hdb:(x==("__debug__" : Str))=false:=by decide)
  (he:starEach (e::es) X.env=(false,eval e X.env)::starEach es X.env:=by rfl) (hpl:(e9 pos (starEach es X.env)).any (·.1)=false:=by rfl):PE X (.Call (.Name x p) (e::es) [] pos) (tCallX cl RX sp t):=by
 obtain⟨f,fd,ps,hm,hk,hb,ok⟩:=G.ok
 intro pins s σ H Q I h
 refine wpAny_Call_Name_kw (y2v I hg hm ?_ hdb)
 refine er (h₀:=X.base) I.ok.mod.kin hk (thn (ha pos pins s σ H _ I h) fun us s1 ⟨vs,H1,I1,r,q⟩=>⟨I1.kIn,?_⟩) he hpl
 exact run_fnX ok hr hb hW I1 r q
def tX(K:aa)(RX:XR)(F:DS->Option XO):TE:=fun σ H Q=>∃δ o,RepS K H noB σ δ∧F δ=some o∧(match o with
 |.val d=>∀v H' A,Same H H'->Tree K H' d v A->A.Nodup->(∀a∈A,H a=none)->Q v H'
 |.exc c=>∀H',Same H H'->RX c σ H')
def z6z(m:List D->Option XO)(fl:List DE):DS->Option XO:=fun δ=>(z0m fl δ).bind m
theorem y2f{m:List D->Option XO}{fl:List DE}(G:DefX X.prog X.w X.K X.mg X.base k x (spX X.K cl m))(hr:Room k X.A)(hg:Gl X x)(hW:XW X cl RX)(ha:PAD X (e::es) fl)(hdb:(x==("__debug__" : Str))=false:=by decide)
  (he:starEach (e::es) X.env=(false,eval e X.env)::starEach es X.env:=by rfl) (hpl:(e9 pos (starEach es X.env)).any (·.1)=false:=by rfl):PE X (.Call (.Name x p) (e::es) [] pos) (tX X.K RX (z6z m fl)):=
 (x1h G hr hg hW ha hdb he hpl).imp fun σ H Q ⟨δ,o,S,q,kk⟩=>by
  unfold z6z at q
  cases e1:z0m fl δ with
  |none=>rw[e1]at q;cases q
  |some ds=>
   rw[e1,av]at q
   refine⟨noB,δ,ds,.no,S,e1,fun vs H1 s1 r1=>⟨ds,o,r1,q,?_⟩⟩
   cases o with
   |val d=>exact fun v H' A s' t nd fr=>kk v H' A (s1.trans s') t nd fun a ha=>s1.free (fr a ha)
   |exc c=>exact fun H' s'=>⟨c,rfl,kk H' (s1.trans s')⟩
variable{H0:Hp}{B0:Addr->Prop}{fr:Bool}{F:DS->Option XO}
def y8W(F:DS->Option XO):SS->Option Out:=fun δ=>(F (z0A δ)).map fun o=>match o with
 |.val _=>.nx δ
 |.exc c=>.ex c δ
theorem s_exprX(h:PE X e (tX X.K RX F))(hs:swapsWith e none pos.line X.env=pure false:=by rfl):PS X (.Expr e pos) (tS X.K H0 B0 fr RX (y8W F)):=PS.imp (z8t h hs) fun D σ H ⟨δ,R,o,rs,q,k⟩=>by
 unfold y8W at q
 cases e1:F (z0A δ)with
 |none=>rw[e1]at q;cases q
 |some o1=>
  rw[e1]at q
  refine⟨z0A δ,o1,rs.all,e1,?_⟩
  cases o1 with
  |val d=>
   cases q
   exact fun v H' A s t nd fr'=>k σ H' R (rs.mono s) (Stp.same s)
  |exc c=>
   cases q
   exact fun H' s=>k σ H' R (rs.mono s) (.same s)
end
section
end
section
end
section
end
section
end
section
variable{K:aa}{H0 H:Hp}{B0:Addr->Prop}{σ:St}{δ:SS}{R:Nat->List Addr}
def movS(i j:Nat)(d:D)(δ:SS):SS:=((z0y j δ).set j none).set i (some (.ow d))
theorem z8y{i j k:Nat}{d:D}{x:SD}(h:(movS i j d δ)[k]? = some (some x)):(k=i∧x = .ow d∧i<δ.length)∨(k≠i∧k≠j∧δ[k]? = some (some x)∧∀d,x≠.bo j d):=by
 unfold movS at h
 rcases z2f h with⟨e,q,hl⟩ | ⟨hk,q⟩
 ·cases q
  refine .inl ⟨e,rfl,?_⟩
  rw[dF]at hl
  unfold z0y at hl
  rwa [ah]at hl
 ·rcases z2f q with⟨e,q',_⟩ | ⟨hj,q'⟩
  ·cases q'
  ·exact .inr ⟨hk,hj,z3W q'⟩
theorem RS.mov{i j:Nat}{d:D}{v:V}(hij:i≠j)(h:RS K H0 B0 H σ δ R)(t:Tree K H d v (R j))(nd:(R j).Nodup):RS K H0 B0 H (σ.set i (some v)) (movS i j d δ) (y1P (y1P R j []) i (R j)):=by
 have up:∀{k:Nat} {w:V},k≠i->σ[k]? = some (some w)->(σ.set i (some v))[k]? = some (some w):=fun hj e=>by rw[bn (Ne.symm hj)];exact e
 have mem:∀r a,a∈y1P (y1P R j []) i (R j) r->(r=i∧a∈R j)∨(r≠i∧r≠j∧a∈R r):=fun r a z=>by
  by_cases hr:r=i
  ·subst hr;rw[z0M]at z;exact .inl ⟨rfl,z⟩
  ·rw[z1n hr]at z
   by_cases hj:r=j
   ·subst hj;rw[z0M]at z;cases z
   ·rw[z1n hj]at z;exact .inr ⟨hr,hj,z⟩
 refine⟨h.keep,h.inB,by unfold movS z0y;simp[h.len],fun r a z=>?_,fun r a z=>?_,fun r s a z z'=>?_,fun k d' z=>?_,fun k r' d' z=>?_,fun k d' z=>?_⟩
 ·rcases mem r a z with⟨_,z⟩ | ⟨_,_,z⟩ <;> exact h.new _ a z
 ·rcases mem r a z with⟨_,z⟩ | ⟨_,_,z⟩ <;> exact h.held _ a z
 ·rcases mem r a z with⟨h1,z⟩ | ⟨h1,h1',z⟩ <;> rcases mem s a z' with⟨h2,z'⟩ | ⟨h2,h2',z'⟩
  ·rw[h1,h2]
  ·exact absurd (h.disj s j a z' z) h2'
  ·exact absurd (h.disj r j a z z') h1'
  ·exact h.disj r s a z z'
 ·rcases z8y z with⟨_,q,_⟩ | ⟨h1,h2,q,_⟩
  ·cases q
  ·obtain⟨w,e1,r⟩:=h.sh k d' q
   refine⟨w,up h1 e1,r.anti fun a z=>z.imp id fun⟨r,z⟩=>?_⟩
   rcases mem r a z with⟨_,z⟩ | ⟨_,_,z⟩ <;> exact⟨_,z⟩
 ·rcases z8y z with⟨_,q,_⟩ | ⟨h1,h2,q,hn⟩
  ·cases q
  ·obtain⟨w,e1,r⟩:=h.bo k r' d' q
   have hr':r'≠j:=fun e=>hn d' (by rw[e])
   refine⟨w,up h1 e1,r.anti fun a z=>z.imp id fun⟨s,hs,z⟩=>?_⟩
   rcases mem s a z with⟨_,z⟩ | ⟨_,_,z⟩
   ·exact⟨j,Ne.symm hr',z⟩
   ·exact⟨s,hs,z⟩
 ·rcases z8y z with⟨e,q,hl⟩ | ⟨h1,h2,q,_⟩
  ·cases q
   subst e
   rw[z0M]
   exact⟨v,by rw[cj];simp[←h.len,hl],t,nd⟩
  ·obtain⟨w,e1,t'⟩:=h.ow k d' q
   rw[z1n h1,z1n h2]
   exact⟨w,up h1 e1,t'⟩
end
section
variable{X:Cx}{H0:Hp}{B0:Addr->Prop}{fr:Bool}{RX:XR}{st:Stmt}
def movO(i j:Nat):SS->Option Out:=fun δ=>match δ[j]? with
 |some (some (.ow d))=>some (.nx (movS i j d δ))
 |_=>none
theorem s_mov{i j:Nat}(hij:i≠j)(h:PAsg X st i (y5k j)):PS X st (tS X.K H0 B0 fr RX (movO i j)):=PS.imp h fun D σ H ⟨δ,R,o,rs,q,k⟩=>by
 unfold movO at q
 split at q
 ·rename_i d e
  cases q
  obtain⟨v,e1,t,nd⟩:=rs.ow j d e
  refine⟨v,e1,k _ H _ (rs.mov hij t nd) ⟨fun a o h _=>h,fun r a z=>?_,fun a z=>z⟩⟩
  by_cases hr:r=i
  ·subst hr;rw[z0M]at z;exact .inl ⟨j,z⟩
  ·rw[z1n hr]at z
   by_cases hj:r=j
   ·subst hj;rw[z0M]at z;cases z
   ·rw[z1n hj]at z;exact .inl ⟨r,z⟩
 ·cases q
end
theorem y3r{X:Cx}{H0:Hp}{B0:Addr->Prop}{fr:Bool}{RX:XR}{body:List Stmt}:PSs X body (tS X.K H0 B0 fr RX fun _=>none):=fun _ _ _ _ _ _ ⟨_,_,_,_,e,_⟩=>nomatch e
section
end
def revS:D->Option (List D)
 |.lst ds=>some ds.reverse
 |_=>none
section
end
section
end
section
end
abbrev bmVE:List Value:=[.type "ValueError",.type "Exception",.type "BaseException",.type "object"]
theorem y8E{K:aa}{h:Heap}{mg:Str->Option Value}{x:Str}{C:Addr}{bl:List Value}{nid:String}(X:K.In h)(G:h.Ns mainGlobals mg)(ha:aE K mainGlobals x=some (some (.ref C)))(hq:cJ K C bl nid=true):OwnCls x C bl nid mg h:=by
 refine⟨dL X G ha,?_⟩
 unfold cJ at hq
 cases hk:K.lookup C with
 |none=>rw[hk]at hq;cases hq
 |some ob=>
  rw[hk]at hq
  have hat:=X _ _ hk
  split at hq
  case h_2=>cases hq
  case h_1 od cls sl z=>
   cases z
   split at hq
   case h_2=>cases hq
   case h_1 C1 tl b0 b1 b2 b3 n b5 em es=>
    simp only[aA,beq_iff_eq,cM]at hq
    obtain⟨⟨⟨⟨⟨z1,z2⟩,z3⟩,z4⟩,z5⟩,z6⟩:=hq
    cases cls with
    |mk nm bs mro ns qn hd sn sub ab col del=>
     cases sl with
     |mk l=>
      dsimp only at em es z3 z5 z6
      rw[em,es,z3,z1,z2]at hat
      exact⟨tl,ns,nm,qn,bs,hd,sn,sub,ab,col,od,b0,b1,b2,b3,b5,_,hat,.of_isNs (PySem.W.isNs_of_in X z5),PySem.W.nsMap_none_of_in X z5 z6,PySem.W.tail_of_in X z4⟩
section
variable{X:Cx}{x:Str}{C:Addr}{np cpos pos:Pos}{e₀:Expr}{H0:Hp}{B0:Addr->Prop}{fr:Bool}{RX:XR}
theorem z9C{c:Nat}{f:DE}(hc:X.calm=true)(hg:Gl X x)(O:OwnCls x C bmVE "ValueError.__new__" X.mg X.base)(hW:Want X C (RX c))(h:PD X e₀ f)
  (he:starEach [e₀] X.env=[(false,eval e₀ X.env)]:=by rfl) (hd:(x==("__debug__" : Str))=false:=by decide):PS X (.Raise (some (.Call (.Name x np) [e₀] [] cpos)) none pos) (tS X.K H0 B0 fr RX (z4Y c f)):=
 s_raise hc hg O PySem.F.excBase_ValueError (by decide) PySem.F.excBase_ValueError hW h he hd
end
def valO:Option XO->Option D
 |some (.val d)=>some d
 |_=>none
def z7h(m:List D->Option XO)(fl:List DE):DE:=fun δ=>valO (z6z m fl δ)
section
variable{X:Cx}{k:Nat}{cl:Nat->Value}{x:Str}{p pos:Pos}{e:Expr}{es:List Expr}
theorem xw_no:XW X cl noX:=fun _ _ _ _ _ _ _ _ _ _ _ h=>h.elim
theorem z6j{m:List D->Option XO}{fl:List DE}(G:DefX X.prog X.w X.K X.mg X.base k x (spX X.K cl m))(hr:Room k X.A)(hg:Gl X x)(ha:PAD X (e::es) fl)(hdb:(x==("__debug__" : Str))=false:=by decide)
  (he:starEach (e::es) X.env=(false,eval e X.env)::starEach es X.env:=by rfl) (hpl:(e9 pos (starEach es X.env)).any (·.1)=false:=by rfl):PN X (.Call (.Name x p) (e::es) [] pos) (z7h m fl):=
 (y2f (RX:=noX) G hr hg xw_no ha hdb he hpl).imp fun σ H Q ⟨δ,d,S,q,kk⟩=>by
  unfold z7h at q
  cases e1:z6z m fl δ with
  |none=>rw[e1]at q;cases q
  |some o=>
   rw[e1]at q
   cases o with
   |exc c=>cases q
   |val d'=>
    cases q
    exact⟨δ,.val d,S,e1,kk⟩
end
section
end
section
end
section
end
section
end
section
end
def tNs(K:aa)(f:DS->Option (List D)):TA:=fun σ H Q=>∃δ ds,RepS K H noB σ δ∧f δ=some ds∧∀vs H' A,Same H H'->Trees K H' ds vs A->A.Nodup->(∀a∈A,H a=none)->Q vs H'
abbrev PAN(X:Cx)(es:List Expr)(fl:List DE):Prop:=PA X es (tNs X.K (z0m fl))
theorem Trees.len{K:aa}{H:Hp}:∀{ds:List D} {xs:List V} {A:List Addr},Trees K H ds xs A->ds.length=xs.length
 |[],_,_,h=>by unfold Trees at h;rw[h.1];rfl
 |d::ds,_,_,h=>by
  unfold Trees at h
  obtain⟨x,r,C,C',rfl,_,h2,_⟩:=h
  simp[Trees.len h2]
section
variable{X:Cx}{e:Expr}{es:List Expr}{pos:Pos}
theorem pan_nil:PAN X [] []:=pa_nil.imp fun σ H Q ⟨δ,ds,S,q,k⟩=>by
 cases q
 exact k [] H [] (.refl H) ⟨rfl,rfl⟩ bc (fun a z=>nomatch z)
theorem x1u{f:DE}{fl:List DE}(ha:PN X e f)(hr:PAN X es fl)(hs:starEach (e::es) X.env=(false,eval e X.env)::starEach es X.env:=by rfl):PAN X (e::es) (f::fl):=(z0S ha hr hs).imp fun σ H Q ⟨δ,ds,S,q,k⟩=>by
 obtain⟨x,xs,e1,e2,rfl⟩:=z5n q
 refine⟨δ,x,S,e1,fun v H1 A s1 t1 nd1 f1=>⟨δ,xs,S.mono s1,e2,fun vs H2 C s2 t2 nd2 f2=>?_⟩⟩
 refine k (v::vs) H2 (A++C) (s1.trans s2) ?_ ?_ fun a ha=>?_
 ·unfold Trees
  exact⟨v,vs,A,C,rfl,t1.mono s2,t2,rfl⟩
 ·refine bT.mpr ⟨nd1,nd2,fun a ha b hb z=>?_⟩
  subst z
  obtain⟨o,q',_⟩:=t1.held x a ha
  rw[f2 a hb]at q';cases q'
 ·rcases ar.mp ha with z | z
  ·exact f1 a z
  ·exact s1.free (f2 a z)
theorem pn_list{fl:List DE}(h:PAN X es fl)(hl:fl.length≤1000:=by decide):PN X (.List es pos) (mkL (z0m fl)):=(y3D h).imp fun σ H Q ⟨δ,d,S,q,k⟩=>by
 unfold mkL at q
 cases r:z0m fl δ with
 |none=>rw[r]at q;cases q
 |some ds=>
  rw[r]at q
  cases q
  refine⟨δ,ds,S,r,fun vs H1 A s1 t1 nd fa=>⟨?_,fun p hp=>?_⟩⟩
  ·rw[←t1.len,z2l r]
   exact cG (z7k hl)
  ·have sp:=z0n (o:=.lst vs) hp
   refine k (.ref p) _ (p::A) (s1.trans sp) ?_ (aw.mpr ⟨fun z=>?_,nd⟩) fun a ha=>?_
   ·unfold Tree
    exact⟨p,vs,A,rfl,z0o,t1.mono sp,rfl⟩
   ·obtain⟨o,q',_⟩:=Trees.held ds t1 p z
    rw[hp]at q';cases q'
   ·rcases ao.mp ha with z | z
    ·rw[z];exact s1.free hp
    ·exact fa a z
variable{H0:Hp}{B0:Addr->Prop}{a:Expr}
def y7a(δ:SS)(i:Nat):Option D:=match δ[i]? with
 |some (some (.ow d))=>some d
 |some (some (.sh d))=>if d.imm=true then some d else none
 |_=>none
def ret2(i j:Nat):SS->Option Out:=fun δ=>match y7a δ i,y7a δ j with
 |some d,some e=>some (.rt (.lst [d,e]))
 |_,_=>none
theorem x1j{K:aa}{H:Hp}{σ:St}{δ:SS}{R:Nat->List Addr}{i:Nat}{d:D}(rs:RS K H0 B0 H σ δ R)(h:y7a δ i=some d):∃v A,σ[i]? = some (some v)∧Tree K H d v A∧A.Nodup∧∀a∈A,a∈R i:=by
 unfold y7a at h
 split at h
 ·rename_i d' e
  cases h
  obtain⟨v,e1,t,nd⟩:=rs.ow i _ e
  exact⟨v,R i,e1,t,nd,fun a z=>z⟩
 ·rename_i d' e
  split at h
  ·rename_i hi
   cases h
   obtain⟨v,e1,r⟩:=rs.sh i _ e
   exact⟨v,[],e1,r.immTree _ hi,bc,(fun a z=>nomatch z)⟩
  ·cases h
 ·cases h
end
section
end
def repLs:D->D->Option (List D)
 |.lst ds,.int k=>if(0≤k∧k≤1000000)∧ds.length*k.toNat≤sizeLine then some (am k.toNat ds).flatten else none
 |_,_=>none
def dRep(f g:DE):DS->Option (List D):=fun δ=>(f δ).bind fun x=>(g δ).bind fun y=>repLs x y
theorem Reps.rep{K:aa}{H:Hp}{B:Addr->Prop}{ds:List D}{xs:List V}(h:Reps K H B ds xs):∀n:Nat,Reps K H B (am n ds).flatten (am n xs).flatten
 |0=>(show Reps K H B [] [] by unfold Reps;rfl)
 |n+1=>by
  rw[bg,bg,bA,bA]
  exact h.append (Reps.rep h n)
def dIxX(F:DS->Option XO)(g:DE):DS->Option XO:=fun δ=>match F δ with
 |some (.val d)=>(g δ).bind fun y=>(ixD d y).bind fun z=>if z.imm=true then some (.val z)else none
 |some (.exc c)=>some (.exc c)
 |none=>none
section
variable{X:Cx}{a b:Expr}{pos:Pos}{f g:DE}
theorem pf_rep(ha:PD X a f)(hb:PD X b g):PF X (.BinOp a .Mult b pos) (dRep f g):=(y5G op_rep ha hb).imp fun σ H Q ⟨B,δ,ds,hB,S,q,k⟩=>by
 unfold dRep at q
 cases e1:f δ with
 |none=>rw[e1]at q;cases q
 |some x=>
 rw[e1,av]at q
 cases e2:g δ with
 |none=>rw[e2]at q;cases q
 |some y=>
 rw[e2,av]at q
 unfold repLs at q
 split at q
 case h_2=>cases q
 case h_1 xs n=>
 split at q
 case isFalse=>cases q
 case isTrue hl=>
 cases q
 refine⟨B,δ,_,hB,S,e1,fun v H1 s1 r1=>⟨B,δ,_,hB.mono s1,S.mono s1,e2,fun v2 H2 s2 r2=>?_⟩⟩
 unfold Rep at r2
 subst r2
 unfold Rep at r1
 obtain⟨p1,vs,rfl,n1,h1,rs1⟩:=r1
 refine⟨p1,n,vs,rfl,rfl,s2 _ _ h1,by omega,by omega,by rw[←rs1.length];exact hl.2,fun p hp=>?_⟩
 exact k p _ _ ((s1.trans s2).trans (z0n hp)) ((s1.trans s2).free hp) z0o (((rs1.mono s2).rep _).mono (z0n hp))
end
end L2
namespace PySem
open Sem (wp)
theorem y2a:typeLookup (.type "dict") "__len__" = pure (some (.builtin "dict.__len__")):=by rw[typeLookup_type,builtinLookup_eq_fast];kernel_rfl
section
variable{K:Type}[DecidableEq K]{prog:dw}{w:eX}{knd:KeyKind prog w K}{A:Around}{E:Value->Shared->Prop}{s:Shared}
theorem z4I{d:Addr}{kvs:List (K×Value)}{ep:Nat}{Q:List Value->Shared->Prop}(hh:A.in1.handled=none)(hd:(d==sysModules)=false)(hm:s.heap.DictAt knd d kvs ep)(hn:kvs.length≤sizeLine)
  (hQ:∀s' acc,Moved [] (fun a b=>b=a) s s'->ItemsOf (fun i v=>∃k x,kvs[i]? = some (k,x)∧knd.is k v=true) acc kvs.length->Q acc.toList s'):wpAny (model prog w) A (collect (.ref d)) Q E s:=by
 have hlt:(d:Nat)<s.heap.objs.size:=hm.lt_size
 have hSd:s.heap.objs.size≠d:=fun e=>bK _ (e ▸ hlt)
 unfold collect
 refine wpAny_bind (wpAny_runValue (codeAny_builtin F.entry_proto_collect ?_))
 rw[Around.under_plainId F.plain_proto_collect _]
 show wpAny _ A.in1 (newList [] >>= fun l=>again (.builtin "list.__iadd__" ⟨[l,.ref d],[]⟩)) _ _ s
 refine wpAny_bind (wpAny_newObj_type ?_)
 refine wpAny_pure ⟨plainId_quiet F.plain_list_iadd _,codeAny_builtin F.entry_list_iadd ?_⟩
 rw[Around.under_plainId F.plain_list_iadd _]
 have hm1:=hm.push { cls:=.type "list",data:=.seq ([]:List Value).toArray }
 have hT1:({ s with heap:=s.heap.push { cls:=.type "list",data:=.seq ([]:List Value).toArray } }:Shared).TypeIs (.ref d) "dict" := hm1.dictOf.typeIs
 have h1:Builtin.List.listSameRef (.ref s.heap.objs.size) (.ref d)=false:=by simp[Builtin.List.listSameRef,hSd]
 show wpAny _ A.in1 (Builtin.List.listExtendWith (.ref s.heap.objs.size) (.ref d) (.ref s.heap.objs.size)) _ _ _
 unfold Builtin.List.listExtendWith
 refine wpAny_bind (wpAny_typeOf hT1 ?_)
 rw[if_neg (by rw[h1];decide)]
 refine wpAny_bind (wpAny_pyIter_dict hd hm1 ?_)
 refine wpAny_bind (wpAny_holding ?_)
 unfold Builtin.List.listLengthHint
 have hm2:=hm1.push { cls:=.type "dict_keyiterator",data:=.fields #[.ref d,.int 0 0,.int kvs.length 0,.int ep 0] }
 have hT2:=hm2.dictOf.typeIs (s:={ s with heap:=(s.heap.push { cls:=.type "list",data:=.seq ([]:List Value).toArray }).push { cls:=.type "dict_keyiterator",data:=.fields #[.ref d,.int 0 0,.int kvs.length 0,.int ep 0] } })
 refine wpAny_bind (wpAny_specialOf hT2 y2a ?_)
 (generalize hid:("dict.__len__" : String)=id0;(fail_if_success (clear hid id0));wp_delta;rw[show splitId id0=some ("dict", "__len__") from by subst hid;decide +kernel];subst hid)
 refine wpAny_bind (wpAny_isInstance (b:=true) hT2 (by rw[isSubtype_type];kernel_rfl) ?_)
 show wpAny _ A.in1 (typeOf (Value.ref d) >>= _) _ _ _
 refine wpAny_bind (wpAny_typeOf hT2 ?_)
 refine wpAny_pure ?_
 show wpAny _ A.in1 (rule "list.extend.makes-room" >>= fun _=>Builtin.List.listTouch (.ref s.heap.objs.size) >>= fun _=>
  again (.builtin "list.extend.loop" ⟨[.ref s.heap.objs.size,.ref (s.heap.push { cls:=.type "list",data:=.seq ([]:List Value).toArray }).objs.size,.ref s.heap.objs.size],[]⟩)) _ _ _
 refine wpAny_bind (wpAny_rule ?_)
 obtain⟨hA,eA⟩:∃h:Heap,h=s.heap.push { cls:=.type "list",data:=.seq ([]:List Value).toArray }:=⟨_,rfl⟩
 obtain⟨hB,eB⟩:∃h:Heap,h=hA.push { cls:=.type "dict_keyiterator",data:=.fields #[.ref d,.int 0 0,.int kvs.length 0,.int ep 0] }:=⟨_,rfl⟩
 have sA:hA.objs.size=s.heap.objs.size+1:=by rw[eA];simp[Heap.push]
 have hne:d≠hA.objs.size:=aG (aI hlt (by rw[sA];exact dB _))
 have W:=(Walks.dictKeys (A:=A.in1) (prog:=prog) (w:=w) (knd:=knd) hh hA.objs.size d hne kvs ep).toS
 have hIt:hB.IsKeyIter hA.objs.size d 0 kvs.length ep:=⟨_,by rw[eB];exact Heap.get?_push_size _ rfl,rfl,rfl⟩
 have hDt:hB.DictAt knd d kvs ep:=by rw[eB,eA];exact hm2
 have hS₁:hB.get? s.heap.objs.size=some { cls:=.type "list",data:=.seq ([]:List Value).toArray }:=by rw[eB,eA];exact Heap.get?_push_of_some _ (Heap.get?_push_size _ rfl)
 have hSf:s.heap.objs.size∉[hA.objs.size,d]:=fun hm=>by
  rcases ao.mp hm with z | z
  ·omega
  ·exact hSd (aq.mp z)
 rw[←eA,←eB]
 refine wpAny_bind ?_
 show wpAny _ A.in1 (updateSeq s.heap.objs.size (·.push .none) >>= fun _=>updateSeq s.heap.objs.size (·.pop)) _ _ _
 refine wpAny_bind (wpAny_updateSeq hS₁ rfl ?_)
 have hS₂:=Heap.get?_update_self (Obj.mapSeq (·.push Value.none)) hS₁ rfl
 refine wpAny_updateSeq hS₂ rfl ?_
 have hS₃:=Heap.get?_update_self (Obj.mapSeq (·.pop)) hS₂ rfl
 have oth:∀b o,b≠s.heap.objs.size->hB.get? b=some o->((hB.update s.heap.objs.size (Obj.mapSeq (·.push Value.none))).update s.heap.objs.size (Obj.mapSeq (·.pop))).get? b=some o:=
  fun b o hb e=>(Heap.get?_update_other _ _ (Ne.symm hb)).trans ((Heap.get?_update_other _ _ (Ne.symm hb)).trans e)
 refine wpAny_pure ⟨plainId_quiet F.plain_extend_loop _,codeAny_extend_loopS W hn _ hSf _ kvs.length 0 _ _ _ rfl (bJ _)
  (W.frame 0 ({ s with heap:=hB }:Shared) _ s.toks ⟨hIt,hDt⟩ (aj _) fun b hb o e=>oth b o (fun h=>hSf (h ▸ hb)) e) hS₃ (ItemsOf.nil _) fun s' acc' c' hmv hS' hacc=>?_⟩
 show wpAny _ A (load s.heap.objs.size >>= _) _ _ s'
 refine wpAny_bind (wpAny_load hS' ?_)
 refine wpAny_pure (hQ s' acc' ⟨fun b o _ e=>?_,hmv.gens,hmv.drawn,hmv.os,hmv.toks⟩ hacc)
 have hb:(b:Nat)<s.heap.objs.size:=Heap.lt_size e
 refine hmv.heap b o (fun z=>?_) (oth b o (aG hb) (by rw[eB,eA];exact Heap.get?_push_of_some _ (Heap.get?_push_of_some _ e)))
 rcases ao.mp z with z | z
 ·exact aG hb z
 ·exact aG (aI hb (by rw[sA];exact dB _)) (aq.mp z)
end
end PySem
namespace L2
open PySem PySem.Spec PyProof.Rows
theorem y7x:∀{vs:List Value} {ns:List Int},vs.length=ns.length->(∀(j:Nat) (v:Value) (n:Int),vs[j]? = some v->ns[j]? = some n->∃t:Tok,v=Value.int n t)->IntsAre vs ns
 |[],[],_,_=>.nil
 |[],_::_,h,_=>by cases h
 |_::_,[],h,_=>by cases h
 |v::vs,n::ns,h,hs=>by
  obtain⟨t,rfl⟩:=hs 0 v n rfl rfl
  exact .cons n t (y7x (by simpa using h) fun j v n e1 e2=>hs (j+1) v n (by simpa using e1) (by simpa using e2))
section
variable{prog:dw}{w:eX}{A:Around}{E:Value->Shared->Prop}{s:Shared}
theorem y2N{d:Addr}{kvs:List (Key×Value)}{ep:Nat}{ns:List Int}{Q:Value->Shared->Prop}(hh:A.handled=none)(hd:(d==sysModules)=false)(hm:s.heap.DictAt (z1b prog w) d kvs ep)(hk:kvs.map (·.1)=ns.map Sum.inl)(h64:ns.length<64)
  (h:∀(h1 h':Heap) (tk:Nat) (out:List Value) (e:Nat) (ns':List Int),(∀b o',s.heap.get? b=some o'->h1.get? b=some o')->(∀b o',h1.get? b=some o'->h'.get? b=some o')->h'.get? h1.objs.size=some { cls:=.type "list",data:=.seq out.toArray e }->IntsAre out ns'->ns'.Perm ns->ns'.Pairwise (· ≤ ·)->Q (.ref h1.objs.size) { s with heap:=h',toks:=tk }):
  wpAny (model prog w) A (call (.builtin "sorted") [.ref d]) Q E s:=by
 have hl:kvs.length=ns.length:=by rw[←ah (f:=(·.1)),hk,ah]
 refine Calls.call_function_entry kind_sorted plain_sorted entry_sorted (args_sorted1 _) ?_
 unfold Builtin.«sorted»
 refine wpAny_bind (m:=checkCount "sorted" 1 1 _) (wpAny_pure ?_)
 refine wpAny_bind (z4I hh hd hm (by rw[sizeLine_eq];omega) fun s1 acc mv hit=>?_)
 have hI:IntsAre acc.toList ns:=by
  refine y7x (by rw[bC,hit.1,hl]) fun j v n e1 e2=>?_
  obtain⟨k,x,e3,e4⟩:=hit.2 j v (by rw[←e1];simp)
  have e5:(kvs.map (·.1))[j]? = some k:=by rw[aB,e3];rfl
  rw[hk,aB,e2]at e5
  cases e5
  rcases z0L (show y2O (Sum.inl n) v=true from e4)with⟨i,t,z1,z2⟩ | ⟨y,t,z1,z2⟩
  ·cases z1;exact⟨t,z2⟩
  ·cases z1
 have es:=Moved.eq_with mv
 refine wpAny_bind (wpAny_newList ?_)
 have hoL:(s1.heap.push (seqObj "list" acc.toList.toArray 0)).get? s1.heap.objs.size=some (seqObj "list" acc.toList.toArray 0):=Heap.get?_push_size _ rfl
 show wpAny _ _ _ _ _ { s1 with heap:=s1.heap.push (seqObj "list" acc.toList.toArray 0) }
 have h64':acc.toList.length<64:=by rw[bC,hit.1,hl];exact h64
 refine wpAny_bind (wpAny_holding (wpAny_call_entry slot_list_sort ⟨_,hoL,rfl⟩ entry_list_sort (list_sort_tree hoL hI h64' fun out ns' a1 a2 a3=>⟨_,rfl,?_⟩) (args_list_sort _)))
 obtain⟨e,he⟩:=sortedHeap_at (out:=out) hoL
 have fin:=h s1.heap _ s1.toks out.toList e ns' (fun b o' hb=>mv.heap b o' (fun z=>nomatch z) hb) (fun b o' hb=>?_) (by simpa[seqObj] using he) a1 a2 a3
 ·refine wpAny_pure ⟨_,rfl,?_⟩
  rw[es]
  exact fin
 ·have hlt:b<s1.heap.objs.size:=Heap.lt_size hb
  rw[sortedHeap_old (aG hlt) (by rw[size_push'];exact cN hlt)]
  exact Heap.get?_push_of_some _ hb
end
section
variable{X:Cx}
theorem y1L(hc:X.calm=true):z4a X (.builtin "sorted") (fun xs H Q=>∃(p:Addr) (kvs:List (Key×V)) (ns:List Int),xs=[.ref p]∧H p=some (.dK kvs)∧kvs.map (·.1)=ns.map Sum.inl∧ns.length<64∧∀l,H l=none->Q (.ref l) (upd H l (.lst ((x1D ns).map V.int)))):=by
 intro pins s σ H xs us Q I r h
 obtain⟨p,kvs,ns,rfl,hq,hk,h64,q⟩:=h
 obtain⟨u,rfl,rx⟩:=z7v r
 cases rx
 obtain⟨_,hs,vs,rel,dd⟩:=dk_of I.hok hq
 obtain⟨ep,da⟩:=dd.dictAt
 refine y2N (I.ok.hd hc) hs da (rel.keys.symm.trans hk) h64 fun h1 h' tk out e ns' k1 k2 ho hi hp hs'=>?_
 have es:=y8A hp hs'
 subst es
 have I1:Inv X pins σ H { s with heap:=h1 }:=I.kept (t':=s.toks) k1
 refine⟨.ref h1.objs.size,_,Inv.laid (s:={ s with heap:=h1 }) (t':=tk) I1 k2 (aj _) (show ObjOk X.prog X.w _ h' _ (.lst ((x1D ns).map V.int)) from⟨?_,out,e,intsV hi,ho⟩),rfl,q _ (I1.hok.fresh (aj _))⟩
 rw[ah,hp.length_eq,sizeLine_eq]
 omega
def z4U:List Key->Option (List Int)
 |[]=>some []
 |.inl n::r=>(z4U r).map fun ns=>n::ns
 |.inr _::_=>none
theorem z8g:∀{ks:List Key} {ns:List Int},z4U ks=some ns->ks=ns.map Sum.inl
 |[],_,h=>by cases h;rfl
 |.inl n::r,_,h=>by
  unfold z4U at h
  cases e:z4U r with
  |none=>rw[e]at h;cases h
  |some ns=>
   rw[e]at h
   cases h
   rw[ay,←z8g e]
 |.inr _::_,_,h=>by cases h
def y1j:List D->Option (List D)
 |[.dct ks _]=>(z4U ks).bind fun ns=>if ns.length<64 then some ((x1D ns).map .int)else none
 |_=>none
theorem x1Y{K:aa}:OpL K (fun xs H Q=>∃(p:Addr) (kvs:List (Key×V)) (ns:List Int),xs=[.ref p]∧H p=some (.dK kvs)∧kvs.map (·.1)=ns.map Sum.inl∧ns.length<64∧∀l,H l=none->Q (.ref l) (upd H l (.lst ((x1D ns).map V.int)))) y1j:=by
 intro H B ds es vs Q hB hr q k
 unfold y1j at q
 split at q
 ·rename_i ks ds'
  cases e:z4U ks with
  |none=>rw[e]at q;cases q
  |some ns=>
   rw[e,av]at q
   split at q
   ·rename_i h64
    cases q
    obtain⟨v,rfl,r⟩:=z4G hr
    unfold Rep at r
    obtain⟨a,kvs,rfl,_,h,hk,_⟩:=r
    exact⟨a,kvs,ns,rfl,h,by rw[hk,z8g e],h64,fun l hl=>k l _ _ (z0n hl) hl z0o (z3N _)⟩
   ·cases q
 ·cases q
variable{e:Expr}{f:DE}{p pos:Pos}
theorem y5t(hc:X.calm=true)(hg:Gl X "sorted")(hm:X.mg "sorted" = none)(h:PD X e f)(he:starEach [e] X.env=[(false,eval e X.env)]:=by rfl):PF X (.Call (.Name "sorted" p) [e] [] pos) (y1E y1j [f]):=
 (z8Y (y1L hc) hg hm boot_sorted (z0a h z0b he) (by decide) (by decide) he rfl).imp (callL x1Y)
end
def mkD1:D->D->Option D
 |.int a,.int b=>some (.dct [.inl a] [.int b])
 |_,_=>none
def y6T(fk fv:DE):DE:=d2 mkD1 fk fv
section
variable{X:Cx}{ke ve:Expr}{pos:Pos}{f g:DE}
theorem x2c(hk:PD X ke f)(hv:PD X ve g):PN X (.Dict [some ke] [ve] pos) (y6T f g):=(pe_disp (x2d hk hv pps_nil) rfl rfl (by simp) (by simp)).imp fun σ H Q ⟨δ,d,S,q,kk⟩=>by
 obtain⟨dx,dy,e1,e2,e3⟩:=z6M q
 unfold mkD1 at e3
 split at e3
 ·rename_i a b
  cases e3
  intro p hp
  have s0:Same H (upd H p (.dK [])):=z0n hp
  refine⟨noB,δ,_,.no,S.mono s0,e1,fun v H2 s2 r2=>⟨noB,δ,_,.no,(S.mono s0).mono s2,e2,fun u H3 s3 r3=>?_⟩⟩
  unfold Rep at r2 r3
  subst r2 r3
  have hp3:H3 p=some (.dK []):=s3 _ _ (s2 _ _ z0o)
  refine⟨hp3,[(.inl a,.int b)],rfl,by simp,?_⟩
  refine kk (.ref p) _ [p] (fun c o ec=>?_) ?_ (aw.mpr ⟨fun z=>(nomatch z),bc⟩) fun c hc=>?_
  ·have hcp:c≠p:=fun z=>by rw[z,hp]at ec;cases ec
   rw[z0t hcp]
   exact s3 _ _ (s2 _ _ (s0 _ _ ec))
  ·unfold Tree
   refine⟨p,[(.inl a,.int b)],[],rfl,z0o,rfl,?_,rfl⟩
   unfold Trees
   exact⟨.int b,[],[],[],rfl,⟨rfl,rfl⟩,⟨rfl,rfl⟩,rfl⟩
  ·rw[aq.mp hc];exact hp
 ·cases e3
end
theorem y7F{lo hi:Int}:Builtin.Range.rangeSize lo hi (-1)=(((lo - hi).toNat:Nat):Int):=by
 unfold Builtin.Range.rangeSize
 rw[if_neg (by decide)]
 by_cases h:hi<lo
 ·rw[if_pos h]
  have:(lo - hi - 1) / 1=lo - hi - 1:=Int.ediv_one _
  simp only[Int.neg_neg]
  omega
 ·rw[if_neg h]
  omega
theorem y8V{a b:Int}(ha:-(2 ^ 61)≤a)(ha':a<2 ^ 61)(hb:-(2 ^ 61)≤b)(hb':b<2 ^ 61):Builtin.Range.small a b (-1)=true:=by
 unfold Builtin.Range.small
 rw[y7F]
 simp only[Builtin.Range.rangeFitsLong,aA,Bool.or_eq_true,decide_eq_true_eq,beq_iff_eq]
 rw[if_neg (by decide),aA,decide_eq_true_eq,decide_eq_true_eq]
 omega
section
variable{X:Cx}{tg:Expr}
theorem y7Z{pins:List (Addr×Obj)}{σ:St}{H:Hp}{s:Shared}{R:It->Hp->Prop}{E:Value->Shared->Prop}{lo hi:Int}{t u v:Tok}{tk:Nat}(I:Inv X pins σ H s)(h1:-(2 ^ 61)≤lo)(h2:lo<2 ^ 61)(h3:-(2 ^ 61)≤hi)(h4:hi<2 ^ 61)
  (q:R (Itr3 lo (-1) (lo - hi).toNat) H):wpAny (model X.prog X.w) X.A (pyIter (.ref s.heap.objs.size)) (PIE X pins σ tg R) E { s with heap:=s.heap.push { cls:=.type "range",data:=.fields #[.int lo t,.int hi u,.int (-1) v] },toks:=tk }:=by
 refine wpAny_pyIter_range (IsRange.new ..) (y8V h1 h2 h3 h4) ?_
 have I1:Inv X pins σ H { s with heap:=s.heap.push { cls:=.type "range",data:=.fields #[.int lo t,.int hi u,.int (-1) v] },toks:=tk }:=I.kept fun b o e=>Heap.get?_push_of_some _ e
 refine⟨(s.heap.push { cls:=.type "range",data:=.fields #[.int lo t,.int hi u,.int (-1) v] }).objs.size,[(s.heap.push { cls:=.type "range",data:=.fields #[.int lo t,.int hi u,.int (-1) v] }).objs.size],_,_,H,rfl,
  I1.kept (t':=tk) fun b o e=>Heap.get?_push_of_some _ e,y1V _ lo (-1) (lo - hi).toNat,?_,fun b hb=>?_,q⟩
 ·have e1:lo+((0:Nat):Int)*(-1)=lo:=by simp
  have e2:(((lo - hi).toNat:Nat):Int) - ((0:Nat):Int)=Builtin.Range.rangeSize lo hi (-1):=by rw[y7F];simp
  show IsRangeIter _ _ (lo+((0:Nat):Int)*(-1)) ((((lo - hi).toNat:Nat):Int) - ((0:Nat):Int)) (-1)
  rw[e1,e2]
  exact Heap.get?_push_size _ rfl
 ·have e:b=(s.heap.push { cls:=.type "range",data:=.fields #[.int lo t,.int hi u,.int (-1) v] }).objs.size:=by simpa using hb
  subst e
  exact I1.fpOk (aj _) (I1.hok.fresh (aj _))
def iRngN(ta:TA):TI:=fun σ H R=>ta σ H fun vs H1=>∃i j:Int,vs=[.int i,.int j,.int (-1)]∧(-(2 ^ 61)≤i∧i<2 ^ 61∧-(2 ^ 61)≤j∧j<2 ^ 61)∧R (Itr3 i (-1) (i - j).toNat) H1
theorem y7U{a b c:Expr}{ta:TA}{p pos:Pos}(hg:Gl X "range")(hm:X.mg "range" = none)(ha:PA X [a,b,c] ta)(hs:starEach [a,b,c] X.env=(false,eval a X.env)::starEach [b,c] X.env:=by rfl)(hpl:(e9 pos (starEach [b,c] X.env)).any (·.1)=false:=by rfl):
  PI X tg (.Call (.Name "range" p) [a,b,c] [] pos) (iRngN ta):=by
 intro pins s σ H R I h
 refine Call_ (z4E I hg hm boot_range (PyProof.Rows.callWith_type1 (thn (ha pos pins s σ H _ I h) fun us s1 ⟨vs,H1,I1,r1,q1⟩=>?_) hs hpl))
 obtain⟨i,j,e,hb,q⟩:=q1
 subst e
 obtain⟨u,v,w,rfl,⟨t1,rfl⟩,⟨t2,rfl⟩,⟨t3,rfl⟩⟩:=r1.three
 exact call_range_3 (by omega) (y7Z I1 hb.1 hb.2.1 hb.2.2.1 hb.2.2.2 q) (.inl (PyProof.noPylong_small (by omega)))
def rngN:Option D->Option D->Option D->Option (List D)
 |some (.int i),some (.int j),some (.int c)=>if c = -1∧-(2 ^ 61)≤i∧i<2 ^ 61∧-(2 ^ 61)≤j∧j<2 ^ 61 then some (y8S i (-1) (i - j).toNat)else none
 |_,_,_=>none
def x0s(f g h:DE):DS->Option (List D):=fun δ=>rngN (f δ) (g δ) (h δ)
theorem pi_rngN{a b c:Expr}{f g h:DE}{p pos:Pos}(hg:Gl X "range")(hm:X.mg "range" = none)(ha:PD X a f)(hb:PD X b g)(hc:PD X c h)(hs:starEach [a,b,c] X.env=(false,eval a X.env)::starEach [b,c] X.env:=by rfl)(hs2:starEach [b,c] X.env=(false,eval b X.env)::starEach [c] X.env:=by rfl)(hs3:starEach [c] X.env=[(false,eval c X.env)]:=by rfl)(hpl:(e9 pos (starEach [b,c] X.env)).any (·.1)=false:=by rfl):
  PID X tg (.Call (.Name "range" p) [a,b,c] [] pos) (x0s f g h):=
 (y7U hg hm (z0a ha (z0a hb (z0a hc z0b hs3) hs2) hs) hs hpl).imp fun σ H R ⟨B,δ,ds,hB,S,q,k⟩=>by
  unfold x0s rngN at q
  split at q
  ·rename_i i j c e1 e2 e3
   split at q
   ·rename_i hj
    obtain⟨rfl,hj⟩:=hj
    cases q
    have ea:z0m [f,g,h] δ=some [.int i,.int j,.int (-1)]:=by unfold z0m z0m z0m;rw[e1,e2,e3];rfl
    refine⟨B,δ,[.int i,.int j,.int (-1)],hB,S,ea,fun vs H1 s1 r1=>?_⟩
    unfold Reps at r1
    obtain⟨x,r,rfl,rx,rr⟩:=r1
    unfold Reps at rr
    obtain⟨y,r',rfl,ry,rr⟩:=rr
    unfold Reps at rr
    obtain⟨z,r'',rfl,rz,rr⟩:=rr
    unfold Reps at rr
    subst rr
    exact⟨i,j,by rw[show x=V.int i from rx,show y=V.int j from ry,show z=V.int (-1) from rz],hj,k _ H1 s1 fun C _=>x0A⟩
   ·cases q
  ·cases q
end
theorem Trees.at{K:aa}{H:Hp}:∀{ds:List D} {xs:List V} {A:List Addr} {k:Nat} {d:D},Trees K H ds xs A->A.Nodup->ds[k]? = some d->∃v C,xs[k]? = some v∧Tree K H d v C∧C.Nodup∧∀a∈C,a∈A
 |[],_,_,_,_,_,_,e=>by cases e
 |d::ds,xs,A,k,d',h,nd,e=>by
  unfold Trees at h
  obtain⟨x,r,C,C',rfl,h1,h2,rfl⟩:=h
  have n2:=bT.mp nd
  cases k with
  |zero=>cases e;exact⟨x,C,rfl,h1,n2.1,fun a ha=>ar.mpr (.inl ha)⟩
  |succ k=>
   obtain⟨v,D',e1,t1,nd1,sb⟩:=Trees.at (k:=k) h2 n2.2.1 (by simpa using e)
   exact⟨v,D',by simpa using e1,t1,nd1,fun a ha=>ar.mpr (.inr (sb a ha))⟩
def ixL:D->D->Option D
 |.lst ds,.int i=>atI ds i
 |_,_=>none
section
variable{X:Cx}{a b:Expr}{pos:Pos}{f g:DE}
theorem pn_ixN(ha:PN X a f)(hb:PD X b g)(hs:y1U b:=by intro _ _;rfl):PN X (.Subscript a b pos) (d2 ixL f g):=(pe_ix x2M ha hb hs).imp fun σ H Q ⟨δ,d,S,q,k⟩=>by
 obtain⟨dx,dy,e1,e2,e3⟩:=z6M q
 unfold ixL at e3
 split at e3
 ·rename_i ds i
  refine⟨δ,_,S,e1,fun v H1 A s1 t1 nd1 f1=>⟨noB,δ,_,.no,S.mono s1,e2,fun u H2 s2 r2=>?_⟩⟩
  unfold Rep at r2
  subst r2
  have t2:=t1.mono s2
  unfold Tree at t2
  obtain⟨p,xs,C,rfl,hp,ts,rfl⟩:=t2
  have hl:=ts.len
  unfold atI at e3
  cases e4:ixN ds.length i with
  |none=>rw[e4]at e3;cases e3
  |some j=>
   rw[e4]at e3
   obtain⟨v',C',e5,t5,nd5,sb⟩:=ts.at (aw.mp nd1).2 (show ds[j]? = some d from e3)
   have e6:atI xs i=some v':=by
    unfold atI
    rw[←hl,e4]
    exact e5
   exact .inl ⟨p,xs,i,v',rfl,rfl,SqL.of hp,e6,k v' H2 C' (s1.trans s2) t5 nd5 fun a ha=>f1 a (ae _ (sb a ha))⟩
 ·cases e3
end
def twoD:D->Option (D×D)
 |.tup [a,b]=>some (a,b)
 |_=>none
theorem y9b{d:D}{z:D×D}(h:twoD d=some z):d = .tup [z.1,z.2]:=by
 unfold twoD at h
 split at h
 ·cases h;rfl
 ·cases h
def z5p(i j:Nat)(b:SS->Option Out):List D->SS->Option Out
 |[],δ=>some (.nx δ)
 |d::r,δ=>(twoD d).bind fun z=>(b ((δ.set i (some (.sh z.1))).set j (some (.sh z.2)))).bind fun o=>match o with
  |.nx δ'=>z5p i j b r δ'
  |.ct δ'=>z5p i j b r δ'
  |.bk δ'=>some (.nx δ')
  |.rt d=>some (.rt d)
  |.rb d δ'=>some (.rb d δ')
  |.ex c δ'=>some (.ex c δ')
def x1P(i j:Nat)(f:DS->Option (List D))(g:SS->Option Out):SS->Option Out:=fun δ=>(f (shV δ)).bind fun ds=>z5p i j g ds δ
section
variable{X:Cx}{H0:Hp}{B0:Addr->Prop}{fr:Bool}{RX:XR}{pos:Pos}
def gPair(K:aa)(i j:Nat):TG:=gTup K 2 (x0b (z3f i) (x0b (z3f j) gNil))
theorem s_for2{i j:Nat}{tg:Expr}{iter:Expr}{body:List Stmt}{f:DS->Option (List D)}{g:SS->Option Out}(hp:PassesOwn (model X.prog X.w) X.A X.env X.xe)(hc:X.calm=true)(hi:PID X tg iter f)(hg:PG X tg (gPair X.K i j))(hb:PSs X body (tS X.K H0 B0 fr RX g))
  (hs:∀x,foldedSetIterable iter X.env x=pure x:=by intro _;rfl):PS X (.For tg iter body [] pos) (tS X.K H0 B0 fr RX (x1P i j f g)):=PS.imp (x2P hp hc hi hg hb hs) fun D σ H ⟨δ,R,o,rs,q,k⟩=>by
 unfold x1P at q
 cases e:f (shV δ)with
 |none=>rw[e]at q;cases q
 |some ds=>
 rw[e]at q
 have q:z5p i j g ds δ=some o:=q
 refine⟨_,shV δ,ds,rs.inAll,rs.shr,e,fun J H1 s1 itw=>?_⟩
 have rs1:=rs.mono s1
 have it:=itw (fun a=>H1 a=none) fun a z=>z
 refine⟨fun n m σ' H'=>m=ds.length - n∧n≤ds.length∧∃δ' R',RS X.K H0 B0 H' σ' δ' R'∧Stp R H1 R' H'∧z5p i j g (ds.drop n) δ'=some o,⟨ds.length,by simp,bJ _,δ,R,rs1,.refl R H1,q⟩,?_⟩
 rintro n m σ' H' ⟨rfl,hn,δ',R',rs',s',q'⟩
 have kp:Keep X.K (fun a=>(B0 a∨∃r,a∈R r)∨H1 a=none) H1 H':=s'.keepB (fun r a z=>.inl (.inr ⟨r,z⟩)) rs1.held
 by_cases hlt:n<ds.length
 ·have hx:ds.drop n=ds[n]::ds.drop (n+1):=aM hlt
  rw[hx]at q'
  unfold z5p at q'
  cases et:twoD ds[n]with
  |none=>rw[et]at q';cases q'
  |some z=>
  rw[et,av]at q'
  cases eb:g ((δ'.set i (some (.sh z.1))).set j (some (.sh z.2)))with
  |none=>rw[eb]at q';cases q'
  |some ob=>
   rw[eb]at q'
   refine .inr ⟨it.go n H' kp hlt,fun σ2 H2=>n+1≤ds.length∧∃δ2 R2,RS X.K H0 B0 H2 σ2 δ2 R2∧Stp R H1 R2 H2∧z5p i j g (ds.drop (n+1)) δ2=some o,fun σ2 H2 z=>⟨ds.length - (n+1),by omega,rfl,z⟩,fun xv H2 hy=>?_⟩
   obtain⟨s2,d,hd,rd⟩:=it.yld n H' xv H2 kp hy
   have hdi:d=ds[n]:=by
    have:=hd hlt
    rw[ac hlt]at this
    exact(Option.some.inj this).symm
   subst hdi
   have rd':Rep X.K H2 (fun a=>B0 a∨∃r,a∈R' r) ds[n] xv:=rd.anti fun a z=>by
    rcases z with z | ⟨r,z⟩
    ·exact .inl (.inl z)
    ·rcases s'.from' r a z with z | z
     ·exact .inl (.inr z)
     ·exact .inr z
   rw[y9b et]at rd'
   unfold Rep at rd'
   obtain⟨p,vs,rfl,hsq,rvs⟩:=rd'
   unfold Reps at rvs
   obtain⟨va,r1,rfl,ra,rvs⟩:=rvs
   unfold Reps at rvs
   obtain⟨vb,r2,rfl,rb,rvs⟩:=rvs
   unfold Reps at rvs
   subst rvs
   refine⟨p,[va,vb],rfl,hsq,rfl,va,[vb],rfl,vb,[],rfl,rfl,?_⟩
   have rs2:=((rs'.mono s2).setSh (i:=i) ra).setSh (i:=j) rb
   have st2:Stp R H1 R' H2:=s'.trans (.same s2)
   refine⟨_,R',ob,rs2,eb,?_⟩
   cases ob with
   |nx δ2=>
    have q2:z5p i j g (ds.drop (n+1)) δ2=some o:=q'
    exact fun σ3 H3 R3 rs3 s3=>⟨hlt,δ2,R3,rs3,st2.trans s3,q2⟩
   |ct δ2=>
    have q2:z5p i j g (ds.drop (n+1)) δ2=some o:=q'
    exact fun σ3 H3 R3 rs3 s3=>⟨hlt,δ2,R3,rs3,st2.trans s3,q2⟩
   |bk δ2=>
    cases q'
    exact fun σ3 H3 R3 rs3 s3=>k σ3 H3 R3 rs3 ((Stp.same s1).trans (st2.trans s3))
   |rt d=>
    cases q'
    exact k.back ((Stp.same s1).trans st2)
   |rb d δ2=>
    cases q'
    exact k.back ((Stp.same s1).trans st2)
   |ex c δ2=>
    cases q'
    exact k.back ((Stp.same s1).trans st2)
 ·have en:n=ds.length:=by omega
  subst en
  rw[cv]at q'
  cases q'
  exact .inl ⟨it.stop _ H' kp (aj _),k σ' H' R' rs' ((Stp.same s1).trans s')⟩
theorem pg_pair{i j:Nat}{x y:Str}{px py tp:Pos}{x1}(hc:X.calm=true)(h1:PG X (.Name x px) (z3f i))(h2:PG X (.Name y py) (z3f j))
  (hs:(e7 [.Name x px,.Name y py] X.env).map (·.2)=assign (.Name x px) X.env::(e7 [.Name y py] X.env).map (·.2):=by rfl) (hs2:(e7 [.Name y py] X.env).map (·.2)=assign (.Name y py) X.env::(e7 [] X.env).map (·.2):=by rfl)
  (hn:(e7 [.Name x px,.Name y py] X.env).length=2:=by rfl) (hst:(e7 [.Name x px,.Name y py] X.env).findIdx? (·.1)=none:=by rfl):PG X (.Tuple [.Name x px,.Name y py] x1 tp) (gPair X.K i j):=
 x2p hc (z6c h1 (z6c h2 y6e hs2) hs) hn hst
end
def bst(ns:List Int):Nat->Nat
 |0=>0
 |k+1=>if decide (ns.getD (k+1) 0<ns.getD (bst ns k) 0)=true then k+1 else bst ns k
def mnI(ns:List Int):Int:=ns.getD (bst ns (ns.length - 1)) 0
theorem y3H{bt:Nat->Nat->Bool}{ns:List Int}(h:∀i j,bt i j=decide (ns.getD i 0<ns.getD j 0)):∀k,argBest bt k=bst ns k
 |0=>rfl
 |k+1=>by
  unfold argBest bst
  rw[y3H h k,h]
section
variable{X:Cx}
theorem y7A(hc:X.calm=true):z4a X (.builtin "min") (fun xs H Q=>∃(p:Addr) (ns:List Int),xs=[.ref p]∧SqL X.K H p (ns.map V.int)∧ns≠[]∧Q (.int (mnI ns)) H):=by
 intro pins s σ H xs us Q I r h
 obtain⟨p,ns,rfl,hq,hne,q⟩:=h
 obtain⟨u,rfl,ru⟩:=z7v r
 cases ru
 obtain⟨its,rv,pl,hz⟩:=I.list hq
 have hi:=z5G rv
 obtain⟨xs,hx⟩:=hi.allInts.items
 have hl':s.heap.IsList p (intItems xs):=hx ▸ pl.isList
 have e1:ns=xs.toList.map (·.1):=by
  rw[←nums_intItems,←hx]
  exact(show numsOf its.toArray.toList=ns from hi.numsOf).symm
 have hsz:xs.size=ns.length:=by rw[e1];simp
 have hp:0<ns.length:=bZ.mpr hne
 refine min_intList (I.ok.hd hc) hl' (by omega) fun v h' tk hv hk=>?_
 have eb:argBest (fun i j=>decide (numAt xs i<numAt xs j)) (xs.size - 1)=bst ns (ns.length - 1):=by
  rw[hsz]
  refine y3H (fun i j=>?_) _
  have en:∀k,numAt xs k=ns.getD k 0:=fun k=>by
   rw[e1]
   unfold numAt
   simp[aZ]
  rw[en,en]
 rw[eb]at hv
 obtain⟨t,rfl⟩:=intItems_at hv
 have en:numAt xs (bst ns (ns.length - 1))=mnI ns:=by
  unfold mnI
  rw[e1]
  unfold numAt
  simp[aZ]
 exact⟨.int _,H,I.kept hk,⟨t,by rw[en]⟩,q⟩
def y7w:List D->Option D
 |[.lst ds]=>(z2w ds).bind fun ns=>if ns.isEmpty=true then none else some (.int (mnI ns))
 |_=>none
theorem oa_minL{K:aa}:OpA K (fun xs H Q=>∃(p:Addr) (ns:List Int),xs=[.ref p]∧SqL K H p (ns.map V.int)∧ns≠[]∧Q (.int (mnI ns)) H) y7w:=by
 intro H B ds d vs Q hB hr q k
 unfold y7w at q
 split at q
 ·rename_i es
  cases e:z2w es with
  |none=>rw[e]at q;cases q
  |some bs=>
   rw[e,av]at q
   split at q
   ·cases q
   ·rename_i hn
    cases q
    obtain⟨v,rfl,r⟩:=z4G hr
    unfold Rep at r
    obtain⟨a,xs,rfl,_,h,rs⟩:=r
    rw[z4P e rs]at h
    exact⟨a,bs,rfl,SqL.of h,fun z=>hn (by rw[z];rfl),k _ H (.refl H) rfl⟩
 ·cases q
variable{e:Expr}{f:DE}{p pos:Pos}
theorem pd_minL(hc:X.calm=true)(hg:Gl X "min")(hm:X.mg "min" = none)(h:PD X e f)(he:starEach [e] X.env=[(false,eval e X.env)]:=by rfl):PD X (.Call (.Name "min" p) [e] [] pos) (z0k y7w [f]):=
 z2O (y7A hc) oa_minL hg hm boot_min (z0a h z0b he) (by decide) (by decide) he rfl
end
theorem Reps.pick{K:aa}{H:Hp}{B:Addr->Prop}{ds:List D}{xs:List V}(h:Reps K H B ds xs):∀l:List Nat,Reps K H B (l.filterMap (ds[·]?)) (l.filterMap (xs[·]?))
 |[]=>.nil
 |j::l=>by
  rw[b6,b6]
  cases e:ds[j]? with
  |none=>
   have hn:xs[j]? = none:=by
    rw[List.getElem?_eq_none_iff]at e ⊢
    rw[←h.length]
    exact e
   rw[hn]
   exact h.pick l
  |some d=>
   obtain⟨x,e2,r⟩:=h.get e
   rw[e2]
   exact .cons r (h.pick l)
section
end
def bigL:Nat:=2 ^ 250
def CMulB(i j:Int):Prop:=i.natAbs<bigL∧j.natAbs<bigL
instance{i j:Int}:Decidable (CMulB i j):=by unfold CMulB;infer_instance
def mulB:D->D->Option D:=iop fun i j=>if CMulB i j then some (.int (i*j))else none
theorem CMulB.ok{i j:Int}(h:CMulB i j):IntMulOk i j:=by
 have h1:Builtin.Int.intBits i≤250:=intBits_le h.1
 have h2:Builtin.Int.intBits j≤250:=intBits_le h.2
 have h3:Builtin.Int.intTooBig ((Builtin.Int.intBits i:Int)+(Builtin.Int.intBits j:Int))=false:=by
  unfold Builtin.Int.intTooBig
  apply decide_eq_false
  have hb:(2000:Int)≤bitsLine:=by decide
  omega
 unfold IntMulOk
 rw[h3]
 simp
section
variable{X:Cx}{a b:Expr}{pos:Pos}{f g:DE}
theorem op_mulB:OpR X (fq .Mult) (rI CMulB fun i j=>.int (i*j)):=opI fun _ _ _ _ _ _ _ hc q=>mul_int q hc.ok
theorem y2z(ha:PD X a f)(hb:PD X b g):PD X (.BinOp a .Mult b pos) (d2 mulB f g):=y0k op_mulB z8l ha hb
end
section
structure ItF(J:It)(lo:Int)(n:Nat):Prop where
 go:∀i H',i<n->J.go i H'
 stop:∀i H',n≤i->J.stop i H'
 yld:∀i H' x H2,J.yld i H' x H2->Same H' H2∧x = .int (lo+(i:Int))
end
section
end
end L2
namespace HT
open PySem PySem.Spec PyProof.Rows
section
variable{prog:dw}{w:eX}{A:Around}{E:Value->Shared->Prop}{s:Shared}
theorem getItem_tuple_whole{t sl:Addr}{items:Array Value}{vl vu:Value}{lo hi:Option Int}{Q:Value->Shared->Prop}(ht:IsTup s.heap t items)(hs:s.heap.IsSliceOf sl vl vu .none)(pl:IsPart vl lo)(pu:IsPart vu hi)
  (hw:sIx items.size 0 lo=0∧sIx items.size items.size hi=items.size)
  (h:Q (.ref t) s):wpAny (model prog w) A (getItem (.ref t) (.ref sl)) Q E s:=by
 obtain⟨os,hos,hcs,hds⟩:=id hs
 have hTs:s.TypeIs (.ref sl) "slice" := ⟨os,hos,hcs⟩
 unfold getItem
 try with_reducible refine wpAny_holding ?_
 first | refine wpAny_bind (wpAny_pure ?_) | skip
 refine wpAny_bind (wpAny_sequenceKey ht.typeIs (by decide) ?_)
 refine wpAny_bind (wpAny_callSpecial?_slot (name:=Str.ofString "__getitem__") ht.typeIs PyProof.Rows.slot_tuple_getitem
  (wpAny_call_entry PyProof.Rows.slot_tuple_getitem ht.typeIs entry_tuple_getitem ?_ (args_tuple_getitem _ _)))
 show wpAny _ _ (Builtin.Tuple.tupleItemsOf (.ref t) >>= _) _ _ s
 refine wpAny_bind (tupleItemsOf_ ht ?_)
 refine wpAny_bind (wpAny_typeOf hTs ?_)
 rw[if_pos (by decide)]
 refine wpAny_bind (z3n hs pl pu ?_)
 have hyes:(((sIx items.size 0 lo:Nat):Int)==0&&(1:Int)==1&&(sIx items.size items.size hi - sIx items.size 0 lo)==items.size)=true:=by
  rw[hw.1,hw.2]
  simp
 show wpAny _ _ (if(((sIx items.size 0 lo:Nat):Int)==0&&(1:Int)==1&&(sIx items.size items.size hi - sIx items.size 0 lo)==items.size)=true then _ else _) _ _ s
 rw[if_pos hyes]
 refine wpAny_bind (m:=Builtin.Tuple.tupleIsExact _) ?_
 unfold Builtin.Tuple.tupleIsExact
 refine wpAny_bind (wpAny_typeOf ht.typeIs ?_)
 refine wpAny_pure ?_
 rw[if_pos (by decide)]
 refine wpAny_bind (wpAny_rule ?_)
 exact wpAny_pure ⟨_,rfl,wpAny_pure h⟩
end
end HT
namespace L2
open PySem PySem.Spec PyProof.Rows
section
variable{X:Cx}{e a b:Expr}{lo hi:Option Expr}{p p2 pos:Pos}
def rSlW(K:aa):V->Option Int->Option Int->Hp->VK->Prop:=fun x lo hi H Q=>∃a xs,x = .ref a∧SqT K H a xs ∧
 ((HT.sIx xs.length 0 lo=0∧HT.sIx xs.length xs.length hi=xs.length)->Q (.ref a) H)∧(¬ (HT.sIx xs.length 0 lo=0∧HT.sIx xs.length xs.length hi=xs.length)->∀p,H p=none->Q (.ref p) (upd H p (.tup (y5O xs lo hi))))
theorem sl_tupW:SlR X (rSlW X.K):=by
 intro pins s σ H x v vl vu lo hi sl Q I rx hs pl pu h
 obtain⟨a,xs,rfl,hx,q1,q2⟩:=h
 cases rx
 obtain⟨its,r,ht,hz⟩:=I.tuple hx
 have hlen:its.toArray.size=xs.length:=by rw[au];exact r.length.symm
 by_cases hw:HT.sIx xs.length 0 lo=0∧HT.sIx xs.length xs.length hi=xs.length
 ·refine⟨"tuple",_,PyProof.Rows.slot_tuple_getitem.lookup,ht.typeIs,?_⟩
  exact HT.getItem_tuple_whole ht hs pl pu (by rw[hlen];exact hw) ⟨.ref a,H,I,rfl,q1 hw⟩
 ·refine⟨"tuple",_,PyProof.Rows.slot_tuple_getitem.lookup,ht.typeIs,?_⟩
  refine HT.getItem_tuple_cut ht hs pl pu (by rw[hlen];exact hw) ?_ (by rw[hlen];exact hz)
  rw[hlen]
  refine⟨.ref s.heap.objs.size,_,I.laid (t':=s.toks) (o:=.tup (y5O xs lo hi)) (fun b ob q=>Heap.get?_push_of_some _ q) (aj _) ?_,rfl,q2 hw _ (I.hok.fresh (aj _))⟩
  exact⟨aF (z6B xs lo hi) hz,_,(r.drop (HT.sIx xs.length 0 lo)).take (HT.sIx xs.length xs.length hi - HT.sIx xs.length 0 lo),TupN.new _ _⟩
def y5K(f:DE)(fl fh:DS->Option (Option Int)):DE:=fun δ=>match f δ with
 |some (.tup ds)=>(fl δ).bind fun lo=>(fh δ).map fun hi=>.tup (z4W ds lo hi)
 |_=>none
theorem y0M{f:DE}{fl fh:DS->Option (Option Int)}(he:PD X e f)(hl:POD X lo fl)(hh:POD X hi fh):PD X (.Subscript e (.Slice lo hi none p2) pos) (y5K f fl fh):=(y3f sl_tupW he hl hh).imp fun σ H Q ⟨B,δ,d',hB,S,q,k⟩=>by
 unfold y5K at q
 split at q
 ·rename_i ds e1
  cases e2:fl δ with
  |none=>rw[e2]at q;cases q
  |some l=>
  cases e3:fh δ with
  |none=>rw[e2,e3]at q;cases q
  |some u=>
  rw[e2,e3]at q
  cases q
  refine⟨B,δ,_,hB,S,e1,fun v H1 s1 r1=>⟨B,δ,l,hB.mono s1,S.mono s1,e2,fun H2 s2=>⟨B,δ,u,(hB.mono s1).mono s2,(S.mono s1).mono s2,e3,fun H3 s3=>?_⟩⟩⟩
  unfold Rep at r1
  obtain⟨a,xs,rfl,hq,rs⟩:=r1
  have hlen:=rs.length
  refine⟨a,xs,rfl,(s2.trans s3).tup hq,fun hw=>?_,fun hw p hp=>?_⟩
  ·refine k _ _ ((s1.trans s2).trans s3) ?_
   have ec:z4W ds l u=ds:=by
    unfold z4W
    rw[←hlen]at hw
    rw[hw.1,hw.2,dS,eu,List.take_length]
   show Rep X.K H3 B (.tup (z4W ds l u)) _
   rw[ec]
   unfold Rep
   exact⟨a,xs,rfl,(s2.trans s3).tup hq,rs.mono (s2.trans s3)⟩
  ·have sa:=z0n (o:=.tup (y5O xs l u)) hp
   refine k _ _ (((s1.trans s2).trans s3).trans sa) ?_
   show Rep X.K _ B (.tup (z4W ds l u)) _
   unfold Rep
   have rc:Reps X.K H1 B (z4W ds l u) (y5O xs l u):=by
    unfold y5O z4W
    rw[←hlen]
    exact(rs.drop _).take _
   exact⟨p,y5O xs l u,rfl,SqT.of z0o,(rc.mono (s2.trans s3)).mono sa⟩
 ·cases q
def y5M(ns:List Int):Nat->Nat
 |0=>0
 |k+1=>if decide (ns.getD (k+1) 0>ns.getD (y5M ns k) 0)=true then k+1 else y5M ns k
def mxI(ns:List Int):Int:=ns.getD (y5M ns (ns.length - 1)) 0
theorem y0E{bt:Nat->Nat->Bool}{ns:List Int}(h:∀i j,bt i j=decide (ns.getD i 0>ns.getD j 0)):∀k,argBest bt k=y5M ns k
 |0=>rfl
 |k+1=>by
  unfold argBest y5M
  rw[y0E h k,h]
theorem y9o(hc:X.calm=true):z4a X (.builtin "max") (fun xs H Q=>∃(p:Addr) (ns:List Int),xs=[.ref p]∧SqL X.K H p (ns.map V.int)∧ns≠[]∧Q (.int (mxI ns)) H):=by
 intro pins s σ H xs us Q I r h
 obtain⟨p,ns,rfl,hq,hne,q⟩:=h
 obtain⟨u,rfl,ru⟩:=z7v r
 cases ru
 obtain⟨its,rv,pl,hz⟩:=I.list hq
 have hi:=z5G rv
 obtain⟨xs,hx⟩:=hi.allInts.items
 have hl':s.heap.IsList p (intItems xs):=hx ▸ pl.isList
 have e1:ns=xs.toList.map (·.1):=by
  rw[←nums_intItems,←hx]
  exact(show numsOf its.toArray.toList=ns from hi.numsOf).symm
 have hsz:xs.size=ns.length:=by rw[e1];simp
 have hp:0<ns.length:=bZ.mpr hne
 refine max_intList (I.ok.hd hc) hl' (by omega) fun v h' tk hv hk=>?_
 have eb:argBest (fun i j=>decide (numAt xs i>numAt xs j)) (xs.size - 1)=y5M ns (ns.length - 1):=by
  rw[hsz]
  refine y0E (fun i j=>?_) _
  have en:∀k,numAt xs k=ns.getD k 0:=fun k=>by
   rw[e1]
   unfold numAt
   simp[aZ]
  rw[en,en]
 rw[eb]at hv
 obtain⟨t,rfl⟩:=intItems_at hv
 have en:numAt xs (y5M ns (ns.length - 1))=mxI ns:=by
  unfold mxI
  rw[e1]
  unfold numAt
  simp[aZ]
 exact⟨.int _,H,I.kept hk,⟨t,by rw[en]⟩,q⟩
def y9Z:List D->Option D
 |[.lst ds]=>(z2w ds).bind fun ns=>if ns.isEmpty=true then none else some (.int (mxI ns))
 |_=>none
theorem oa_maxL{K:aa}:OpA K (fun xs H Q=>∃(p:Addr) (ns:List Int),xs=[.ref p]∧SqL K H p (ns.map V.int)∧ns≠[]∧Q (.int (mxI ns)) H) y9Z:=by
 intro H B ds d vs Q hB hr q k
 unfold y9Z at q
 split at q
 ·rename_i es
  cases e:z2w es with
  |none=>rw[e]at q;cases q
  |some bs=>
   rw[e,av]at q
   split at q
   ·cases q
   ·rename_i hn
    cases q
    obtain⟨v,rfl,r⟩:=z4G hr
    unfold Rep at r
    obtain⟨a,xs,rfl,_,h,rs⟩:=r
    rw[z4P e rs]at h
    exact⟨a,bs,rfl,SqL.of h,fun z=>hn (by rw[z];rfl),k _ H (.refl H) rfl⟩
 ·cases q
variable{f:DE}
theorem pd_maxL(hc:X.calm=true)(hg:Gl X "max")(hm:X.mg "max" = none)(h:PD X e f)(he:starEach [e] X.env=[(false,eval e X.env)]:=by rfl):PD X (.Call (.Name "max" p) [e] [] pos) (z0k y9Z [f]):=
 z2O (y9o hc) oa_maxL hg hm boot_max (z0a h z0b he) (by decide) (by decide) he rfl
end
end L2
namespace PySem
namespace SetTable
def Up(xs:Array Nat):Prop:=xs.toList.Pairwise (· < ·)
end SetTable
def TI(t:SetTable):Prop:=t.led=true∧(t.plain=true->SetTable.Up t.place)
end PySem
namespace PySem
section
variable{prog:dw}{w:eX}{K:Type}[DecidableEq K](knd:KeyKind prog w K)
variable{knd}
end
section
open PyProof.Rows in
end
end PySem
namespace PySem
section
open PyProof.Rows in
set_option maxHeartbeats 3200000 in
open PyProof.Rows in
end
end PySem
namespace PySem
section
end
section
end
end PySem
namespace PySem
section
end
end PySem
namespace PySem
section
end
end PySem
namespace PySem
open Sem (wp)
section
variable{K:Type}[DecidableEq K]
end
end PySem
namespace L2
open PySem PySem.Spec PyProof.Rows
section
end
section
end
section
end
section
end
section
end
section
variable{X:Cx}{a b:Expr}{pos:Pos}{f g:DE}
def rCatU(K:aa):R2:=fun x y H Q=>∃l b xs zs,x = .ref l∧y = .ref b∧SqT K H l xs∧SqT K H b zs∧xs.length+zs.length≤sizeLine∧(xs=[]->Q (.ref b) H)∧(xs≠[]->zs=[]->Q (.ref l) H)∧(xs≠[]->zs≠[]->∀p,H p=none->Q (.ref p) (upd H p (.tup (xs++zs))))
theorem op_catU:OpR X (fq .Add) (rCatU X.K):=by
 intro pins s σ H x y v u Q I rx ry h
 obtain⟨l,b,xs,zs,rfl,rfl,hH,hB,hz,q0,q1,q2⟩:=h
 cases rx
 cases ry
 obtain⟨its,o1,n1,r,e1,c1,d1,g1,z1⟩:=I.tupleO hH
 obtain⟨its2,o2,n2,r2,e2,c2,d2,g2,z2⟩:=I.tupleO hB
 have hl:=r.length
 have hl2:=r2.length
 obtain⟨cls,dd,data,sl⟩:=o1
 obtain⟨cls2,dd2,data2,sl2⟩:=o2
 simp only at c1 d1 g1 c2 d2 g2
 subst c1 d1 g1 c2 d2 g2
 by_cases h1:xs=[]
 ·refine concat_meets ⟨_,e1,rfl⟩ ⟨_,e2,rfl⟩ noFill_tuple_add seq_tuple_add PySem.F.slot_tuple_add PySem.F.entry_tuple_add (PySem.F.args_tuple_add_2 _ _) (tuple_addW0 l b its.toArray its2.toArray n1 n2 none none sl sl2 ?_) ⟨e1,e2,?_⟩
  ·rw[h1]at hl
   have:its=[]:=aT.mp hl.symm
   rw[this]
   rfl
  ·exact⟨.ref b,H,I,rfl,q0 h1⟩
 ·have hi1:¬ its.toArray.isEmpty=true:=fun z=>h1 (by
   have:its=[]:=by simpa using z
   rw[this]at hl
   exact aT.mp hl)
  by_cases h2:zs=[]
  ·refine concat_meets ⟨_,e1,rfl⟩ ⟨_,e2,rfl⟩ noFill_tuple_add seq_tuple_add PySem.F.slot_tuple_add PySem.F.entry_tuple_add (PySem.F.args_tuple_add_2 _ _) (tuple_addW1 l b its.toArray its2.toArray n1 n2 none none sl sl2 hi1 ?_) ⟨e1,e2,?_⟩
   ·rw[h2]at hl2
    have:its2=[]:=aT.mp hl2.symm
    rw[this]
    rfl
   ·exact⟨.ref l,H,I,rfl,q1 h1 h2⟩
  ·have hi2:¬ its2.toArray.isEmpty=true:=fun z=>h2 (by
    have:its2=[]:=by simpa using z
    rw[this]at hl2
    exact aT.mp hl2)
   refine concat_meets ⟨_,e1,rfl⟩ ⟨_,e2,rfl⟩ noFill_tuple_add seq_tuple_add PySem.F.slot_tuple_add PySem.F.entry_tuple_add (PySem.F.args_tuple_add_2 _ _) (tuple_addW2 l b its.toArray its2.toArray n1 n2 none none sl sl2 hi1 hi2 (by rw[au,au];omega)) ⟨e1,e2,?_⟩
   have ea:its.toArray++its2.toArray=(its++its2).toArray:=by simp
   rw[ea]
   refine⟨.ref s.heap.objs.size,_,I.laid (t':=s.toks) (o:=.tup (xs++zs)) (fun b ob q=>Heap.get?_push_of_some _ q) (aj _) ?_,rfl,q2 h1 h2 _ (I.hok.fresh (aj _))⟩
   exact⟨by rw[aC];omega,_,r.append r2,TupN.new _ _⟩
def catT:D->D->Option D
 |.tup ds,.tup es=>if ds.length+es.length≤sizeLine then some (.tup (ds++es))else none
 |_,_=>none
theorem y7J(ha:PD X a f)(hb:PD X b g):PD X (.BinOp a .Add b pos) (d2 catT f g):=(y5G op_catU ha hb).imp fun σ H Q ⟨B,δ,d,hB,S,q,k⟩=>by
 obtain⟨x,y,e1,e2,e3⟩:=z6M q
 unfold catT at e3
 split at e3
 case h_2=>cases e3
 case h_1 ds es=>
 split at e3
 case isFalse=>cases e3
 case isTrue hl=>
 cases e3
 refine⟨B,δ,_,hB,S,e1,fun v H1 s1 r1=>⟨B,δ,_,hB.mono s1,S.mono s1,e2,fun v2 H2 s2 r2=>?_⟩⟩
 unfold Rep at r1 r2
 obtain⟨p1,vs,rfl,h1,rs1⟩:=r1
 obtain⟨p2,ws,rfl,h2,rs2⟩:=r2
 have l1:=rs1.length
 have l2:=rs2.length
 refine⟨p1,p2,vs,ws,rfl,rfl,s2.tup h1,h2,by rw[←l1,←l2];exact hl,fun z=>?_,fun z1 z=>?_,fun z1 z2 p hp=>?_⟩
 ·have hd:ds=[]:=aT.mp (by rw[l1,z];rfl)
  refine k _ _ (s1.trans s2) ?_
  rw[hd,cB]
  unfold Rep
  exact⟨p2,ws,rfl,h2,rs2⟩
 ·have he:es=[]:=aT.mp (by rw[l2,z];rfl)
  refine k _ _ (s1.trans s2) ?_
  rw[he,aL]
  unfold Rep
  exact⟨p1,vs,rfl,s2.tup h1,rs1.mono s2⟩
 ·have sp:=z0n (o:=.tup (vs++ws)) hp
  refine k _ _ ((s1.trans s2).trans sp) ?_
  unfold Rep
  exact⟨p,vs++ws,rfl,SqT.of z0o,((rs1.mono s2).append rs2).mono sp⟩
end
section
end
section
end
section
end
def spM2(K:aa)(F:List D->Option D):Sp:=fun vs H Q _=>∃u v r du d0 ds d A,vs=u::v::r∧Rep K H (fun a=>a∈A) du u∧Tree K H d0 v A∧A.Nodup∧Reps K H (fun a=>a∈A) ds r∧F (du::d0::ds)=some d ∧
 ∀v' H' A',Same (y2U H A) H'->Tree K H' d v' A'->A'.Nodup->(∀a∈A',a∈A∨H a=none)->(∀a,H' a=none->H a=none)->Q v' H'
def y2r(np nl:Nat)(g:SS->Option Out):List D->Option D:=fun ds=>match ds with
 |du::d0::ds=>if ds.length+2=np then(match g (some (.sh du)::some (.ow d0)::ds.map (fun d=>some (.sh d))++am nl none)with
  |some (.rt d)=>some d
  |some (.nx _)=>some .non
  |_=>none)else none
 |_=>none
theorem y5b{K:aa}{H:Hp}{du d0:D}{u v:V}{A:List Addr}{ds:List D}{vs:List V}{N:List Str}{nl:Nat}(ru:Rep K H (fun a=>a∈A) du u)(t:Tree K H d0 v A)(nd:A.Nodup)(r:Reps K H (fun a=>a∈A) ds vs)(hN:N.length=ds.length+2+nl):
  RS K (y2U H A) noB H (z3Y N (u::v::vs)) (some (.sh du)::some (.ow d0)::ds.map (fun d=>some (.sh d))++am nl none) (fun r=>if r=1 then A else []):=by
 have hl:=r.length
 have get:∀{i:Nat} {x:SD},(some (SD.sh du)::some (SD.ow d0)::ds.map (fun d=>some (SD.sh d))++am nl none)[i]? = some (some x)->(i=0∧x = .sh du)∨(i=1∧x = .ow d0)∨∃j d,i=j+2∧ds[j]? = some d∧x = .sh d:=fun {i x} e=>by
  cases i with
  |zero=>simp at e;exact .inl ⟨rfl,e.symm⟩
  |succ i=>
  cases i with
  |zero=>simp at e;exact .inr (.inl ⟨rfl,e.symm⟩)
  |succ j=>
   have e':(ds.map (fun d=>some (SD.sh d))++am nl none)[j]? = some (some x):=by simpa using e
   by_cases hi:j<ds.length
   ·rw[aY (by simpa using hi),aB,ac hi]at e'
    cases e'
    exact .inr (.inr ⟨j,ds[j],rfl,ac hi,rfl⟩)
   ·rw[bp (by simpa using hi),cb]at e'
    split at e' <;> cases e'
 have mem:∀r a,a∈(if r=1 then A else [])->r=1∧a∈A:=fun r a z=>by
  split at z
  ·exact⟨by assumption,z⟩
  ·cases z
 refine⟨y5a,(fun _ z=>z.elim),?_,fun r a z=>y4k (mem r a z).2,fun r a z=>t.held d0 a (mem r a z).2,fun r s a z z'=>by rw[(mem r a z).1,(mem s a z').1],fun i d e=>?_,fun i r d e=>?_,fun i d e=>?_⟩
 ·unfold z3Y
  simp
  omega
 ·rcases get e with⟨rfl,q⟩ | ⟨_,q⟩ | ⟨j,d',rfl,e1,q⟩
  ·cases q
   refine⟨u,?_,ru.anti fun a z=>?_⟩
   ·unfold z3Y
    simp
   ·rcases z with z | ⟨r,z⟩
    ·exact z.elim
    ·exact(mem r a z).2
  ·cases q
  ·cases q
   obtain⟨u',e3,rv⟩:=r.get e1
   refine⟨u',?_,rv.anti fun a z=>?_⟩
   ·unfold z3Y
    have hi:j<vs.length:=(aP.mp e3).1
    rw[aY (by simp;omega),aB]
    simp[e3]
   ·rcases z with z | ⟨r,z⟩
    ·exact z.elim
    ·exact(mem r a z).2
 ·rcases get e with⟨_,q⟩ | ⟨_,q⟩ | ⟨j,d',rfl,e1,q⟩ <;> cases q
 ·rcases get e with⟨_,q⟩ | ⟨rfl,q⟩ | ⟨j,d',rfl,e1,q⟩
  ·cases q
  ·cases q
   refine⟨v,?_,t,nd⟩
   unfold z3Y
   simp
  ·cases q
section
variable{P:dw}{w:eX}{K:aa}{mg:Str->Option Value}{base:Heap}
theorem defM2{x qual:Str}{st:Stmt}{f:Addr}{fd:eY}{N ps:List Str}{k np nl:Nat}{g:SS->Option Out}(F:Fun K x qual st f fd)(hm:mg x=some (.ref f))(hb:Binds K fd ps [])(S:FnScope N ps (z0e st))(hnp:ps.length=np)(hN:N.length=np+nl)
  (hbody:∀(cdv:Value) (A:Around) (outer:List Env) (s:Shared) (H H0:Hp) (E:XK),Room k (A.deeper (envOfC qual (z0e st) s.heap.objs.size f cdv)) →
   PSs (y1N CX0 P w K mg base N qual (z0e st) f cdv A outer s H E).nox (z1f st) (tS K H0 noB true noX g)):DefOk P w K mg base (k+1) x (spM2 K (y2r np nl g)):=by
 refine⟨f,fd,ps,hm,F.kp,hb,F.ok S (fun vs H Q E h=>?_) fun cdv A outer s H vs Q E hr h=>?_⟩
 ·obtain⟨u,v,r,du,d0,ds,d,A,rfl,_,_,_,rr,e,_⟩:=h
  unfold y2r at e
  simp only at e
  split at e
  ·rename_i hl
   rw[aX,aX,←rr.length,hnp]
   omega
  ·cases e
 ·obtain⟨u,v,r,du,d0,ds,d,A',rfl,ru,t,nd,rr,e,kk⟩:=h
  refine⟨_,hbody cdv A outer s H (y2U H A') E hr,?_⟩
  have hl:ds.length+2=np:=by
   unfold y2r at e
   simp only at e
   split at e
   ·assumption
   ·cases e
  have e':(match g (some (.sh du)::some (.ow d0)::ds.map (fun d=>some (.sh d))++am nl none)with | some (.rt d)=>some d | some (.nx _)=>some D.non | _=>none)=some d:=by
   unfold y2r at e
   simp only[if_pos hl]at e
   exact e
  have rs:=y5b (nl:=nl) (N:=N) ru t nd rr (by omega)
  have fr:∀a,y2U H A' a=none->a∈A'∨H a=none:=fun a z=>by
   by_cases h:a∈A'
   ·exact .inl h
   ·rw[z7f h]at z;exact .inr z
  split at e'
  ·rename_i d' eg
   cases e'
   exact⟨_,_,_,rs,eg,fun v H' z th=>by
    obtain⟨A2,t2,nd2,fr2⟩:=z.2.1 rfl
    exact kk v H' A2 z.1 t2 nd2 (fun a ha=>fr a (fr2 a ha)) th⟩
  ·rename_i δ' eg
   cases e'
   exact⟨_,_,_,rs,eg,fun σ' H' R' rs' st'=>kk .non H' [] rs'.keep ⟨rfl,rfl⟩ bc (fun a z=>nomatch z) st'.there⟩
  ·cases e'
end
def z6S(F:List D->Option D)(f0 f1:DE)(fl:List DE):DE:=fun δ=>(f0 δ).bind fun a=>(f1 δ).bind fun b=>(z0m fl δ).bind fun cs=>F (a::b::cs)
section
variable{X:Cx}{k:Nat}{x:Str}{p pos:Pos}{e e':Expr}{es:List Expr}
theorem y1G{F:List D->Option D}{f0 f1:DE}{fl:List DE}(G:DefOk X.prog X.w X.K X.mg X.base k x (spM2 X.K F))(hr:Room k X.A)(hg:Gl X x)(h0:PD X e f0)(h1:PN X e' f1)(ha:PAD X es fl)(hdb:(x==("__debug__" : Str))=false:=by decide)
  (he:starEach (e::e'::es) X.env=(false,eval e X.env)::starEach (e'::es) X.env:=by rfl) (he1:starEach (e'::es) X.env=(false,eval e' X.env)::starEach es X.env:=by rfl) (hpl:(e9 pos (starEach (e'::es) X.env)).any (·.1)=false:=by rfl):PN X (.Call (.Name x p) (e::e'::es) [] pos) (z6S F f0 f1 fl):=
 (z9b G hr hg (z0S h0 (z0S h1 ha he1) he) hdb he hpl).imp fun σ H Q ⟨δ,d,S,q,k⟩=>by
  unfold z6S at q
  cases e0:f0 δ with
  |none=>rw[e0]at q;cases q
  |some a=>
  cases e1:f1 δ with
  |none=>rw[e0,e1]at q;cases q
  |some b=>
  cases e2:z0m fl δ with
  |none=>rw[e0,e1,e2]at q;cases q
  |some cs=>
  rw[e0,e1,e2]at q
  have q:F (a::b::cs)=some d:=q
  refine⟨noB,δ,a,.no,S,e0,fun u H1 s1 r1=>⟨δ,b,S.mono s1,e1,fun v H2 A s2 t2 nd2 f2=>?_⟩⟩
  have S2:RepS X.K H2 (fun x=>x∈A) σ δ:=((RepS.wide (C:=fun x=>x∈A) (S.mono s1) f2).anti fun x z=>.inr z).mono s2
  refine⟨fun x=>x∈A,δ,cs,fun x z=>?_,S2,e2,fun vs H3 s3 r3=>?_⟩
  ·obtain⟨o,qo,_⟩:=t2.held b x z
   exact⟨o,qo⟩
  show spM2 X.K F ((u::v::vs)++[]) H3 Q E0
  rw[aL]
  have ru:Rep X.K H3 (fun x=>x∈A) a u:=((Rep.wide (C:=fun x=>x∈A) f2 a r1).anti fun x z=>.inr z).mono (s2.trans s3)
  refine⟨u,v,vs,a,b,cs,d,A,rfl,ru,t2.mono s3,nd2,r3,q,fun v' H' A' s' t' nd' fr' th'=>?_⟩
  refine k v' H' A' (fun x o ex=>?_) t' nd' fun x hx=>?_
  ·refine s' x o ?_
   have ex1:=s1 x o ex
   rw[z7f fun z=>by rw[f2 x z]at ex1;cases ex1]
   exact s3 x o (s2 x o ex1)
  ·rcases fr' x hx with z | z
   ·exact s1.free (f2 x z)
   ·exact s1.free (s2.free (s3.free z))
variable{H0:Hp}{B0:Addr->Prop}{RX:XR}{a:Expr}{pos':Pos}
def ret1(i:Nat):SS->Option Out:=fun δ=>(y7a δ i).map fun d=>.rt (.lst [d])
theorem s_ret1{i:Nat}(ha:PE X a (y5k i))(hs:starEach [a] X.env=(false,eval a X.env)::starEach [] X.env:=by rfl):
  PS X (.Return (some (.List [a] pos')) pos) (tS X.K H0 B0 true RX (ret1 i)):=PS.imp (z8i (y3D (z0S ha pa_nil hs))) fun D σ H ⟨δ,R,o,rs,q,k⟩=>by
 unfold ret1 at q
 cases h1:y7a δ i with
 |none=>rw[h1]at q;cases q
 |some d=>
  rw[h1]at q
  cases q
  obtain⟨v,A,e1,t1,n1,m1⟩:=x1j rs h1
  refine⟨v,e1,by show 1≤sizeLine;rw[sizeLine_eq];omega,fun p hp=>?_⟩
  have sp:=z0n (o:=.lst [v]) hp
  have hold:∀x,x∈A->H x≠none:=fun x hx z=>by
   obtain⟨o,q,_⟩:=t1.held _ x hx
   rw[z]at q;cases q
  refine k (.ref p) _ ⟨rs.keep.trans sp,fun _=>⟨p::A,?_,aw.mpr ⟨fun z=>hold p z hp,n1⟩,fun x hx=>?_⟩,fun z=>by cases z⟩ fun x z=>sp.free z
  ·unfold Tree
   refine⟨p,[v],A,rfl,z0o,?_,rfl⟩
   unfold Trees
   exact⟨v,[],A,[],rfl,t1.mono sp,⟨rfl,rfl⟩,by simp⟩
  ·rcases ao.mp hx with z | z
   ·rw[z];exact rs.keep.free hp
   ·exact rs.new i x (m1 x z)
end
section
end
section
end
section
variable{X:Cx}
@[irreducible] def PSb(X:Cx)(st:Stmt)(t:TS):Prop:=PS X st t
@[irreducible] def PSsb(X:Cx)(st:List Stmt)(t:TS):Prop:=PSs X st t
end
section
end
section
end
section
end
section
end
section
end
section
end
section
end
section
end
section
variable{K:aa}{H:Hp}
def z8I:List D->Option (List Int)
 |[]=>some []
 |.int i::ds=>(z8I ds).map (i :: ·)
 |_=>none
theorem z6o:∀{ds:List D} {ns:List Int},z8I ds=some ns->ds=ns.map .int
 |[],_,h=>by cases h;rfl
 |d::ds,ns,h=>by
  cases d
  case int i=>
   unfold z8I at h
   cases e:z8I ds with
   |none=>rw[e]at h;cases h
   |some ms=>
    rw[e]at h
    cases h
    rw[z6o e];rfl
  all_goals (unfold z8I at h;cases h)
theorem z5C:∀{ns:List Int} {ys:List V} {A:List Addr},Trees K H (ns.map .int) ys A->ys=ns.map V.int∧A=[]
 |[],_,_,h=>h
 |n::ns,ys,A,h=>by
  rw[ay]at h
  unfold Trees at h
  obtain⟨x,r,B',C,e,t,ts,eA⟩:=h
  unfold Tree at t
  obtain⟨e1,e2⟩:=z5C ts
  rw[e,eA,t.1,t.2,e1,e2]
  exact⟨rfl,rfl⟩
theorem z5u:∀ns:List Int,Trees K H (ns.map .int) (ns.map V.int) []
 |[]=>⟨rfl,rfl⟩
 |n::ns=>by
  rw[ay]
  unfold Trees
  refine⟨_,_,[],[],rfl,?_,z5u ns,rfl⟩
  unfold Tree
  exact⟨rfl,rfl⟩
end
section
end
section
end
section
end
section
end
section
end
section
end
section
end
theorem y8H{i j:Nat}{δ:SS}{d:D}(h:δ[i]? = some (some (.ow d))):(z0y j δ)[i]? = some (some (.ow d)):=by
 unfold z0y
 rw[aB,h]
 rfl
def popS(i j:Nat)(c:Int)(ds es:List D)(δ:SS):SS:=(z0y i ((z0y j δ).set j (some (.ow (.lst es))))).set i (some (.ow (.lst (ds++[.int c]))))
section
end
section
variable{prog:dw}{w:eX}{A:Around}{E:Value->Shared->Prop}{s:Shared}{it t:Addr}{i:Nat}{its:Array Value}{Q:Fin->Shared->Prop}{o ol:Obj}{n:Nat}{x:Value}
theorem tup_nx(ho:s.heap.get? it=some o)(hd:o.data = .fields #[.ref t,.int i 0])(hl:s.heap.get? t=some ol)(hdl:ol.data = .seq its n)(hx:its[i]? = some x)
  (k:Q (.done (.ret x)) { s with heap:=s.heap.update it (Obj.mapFields (·.setIfInBounds 1 (rawInt ((i:Int)+1)))) }):wpAny (model prog w) A (Builtin.«tuple_iterator.__next__» ⟨[.ref it],[]⟩) Q E s:=by
 obtain⟨hp,g,d,tk,os⟩:=s
 obtain⟨c,dd,dt,sl⟩:=o
 obtain⟨c2,dd2,dt2,sl2⟩:=ol
 cases hd
 cases hdl
 have hx':its[((i:Nat):Int).toNat]? = some x:=hx
 wp_walk
 rw[hx']
 wp_walk
 exact k
theorem tup_end(hh:A.handled=none)(ho:s.heap.get? it=some o)(hd:o.data = .fields #[.ref t,.int i 0])(hl:s.heap.get? t=some ol)(hdl:ol.data = .seq its n)(hx:its[i]? = none)
  (k:∀h' e,Heap.ExtBut it s.heap h'->(∃o,h'.get? e=some o∧o.cls = .type "StopIteration")->E (.ref e) { s with heap:=h' }):wpAny (model prog w) A (Builtin.«tuple_iterator.__next__» ⟨[.ref it],[]⟩) Q E s:=by
 obtain⟨hp,g,d,tk,os⟩:=s
 obtain⟨c,dd,dt,sl⟩:=o
 obtain⟨c2,dd2,dt2,sl2⟩:=ol
 cases hd
 cases hdl
 have hx':its[((i:Nat):Int).toNat]? = none:=hx
 wp_walk
 rw[hx']
 wp_walk
 unfold raiseNew
 wp_walk
 exact k _ _ (((Heap.SameBut.update ..).extBut.push _).push _) ⟨_,Heap.get?_push_size _ rfl,rfl⟩
def z9A(prog:dw)(w:eX)(A:Around)(it:Addr)(s:Shared)(x:Value)(S:Heap->Prop):Prop:=
 ∀(Q:Value->Shared->Prop) (E:Value->Shared->Prop),(∀h',S h'->Heap.SameBut it s.heap h'->Q x { s with heap:=h' })->wpAny (model prog w) A (Builtin.SmallTypes.nextOf (.ref it)) Q E s
def y1Z(prog:dw)(w:eX)(A:Around)(it:Addr)(s:Shared):Prop:=
 ∀(Q:Value->Shared->Prop) (E:Value->Shared->Prop),(∀h' e,Heap.ExtBut it s.heap h'->(∃o,h'.get? e=some o∧o.cls = .type "StopIteration")->E (.ref e) { s with heap:=h' })->wpAny (model prog w) A (Builtin.SmallTypes.nextOf (.ref it)) Q E s
theorem y5d{l:Addr}(hi:s.heap.IsListIter it l i)(hl:s.heap.IsList l its)(hx:its[i]? = some x):z9A prog w A it s x fun h=>h.IsListIter it l (i+1):=fun _ _ k=>wpAny_nextOf_list_item hi hl hx k
theorem y9X{l:Addr}(hh:A.handled=none)(hi:s.heap.IsListIter it l i)(hl:s.heap.IsList l its)(hx:its[i]? = none):y1Z prog w A it s:=fun _ _ k=>wpAny_nextOf_list_end hh hi hl hx k
theorem y8I(hi:s.heap.IsTupleIter it t i)(hl:s.heap.IsTuple t its)(hx:its[i]? = some x):z9A prog w A it s x fun h=>h.IsTupleIter it t (i+1):=fun Q E k=>by
 obtain⟨o,ho,hc,hd⟩:=id hi
 obtain⟨ol,hol,_,n,hdl⟩:=hl
 exact wpAny_bind (wpAny_callSpecial?_slot (name:=Str.ofString "__next__") hi.typeIs F.slot_tuple_iterator_next (wpAny_call_entry F.slot_tuple_iterator_next hi.typeIs F.entry_tuple_iterator_next
  (tup_nx ho hd hol hdl hx ⟨x,rfl,wpAny_pure (k _ ⟨_,Heap.get?_update_self _ ho (Obj.isFreed_of_fields (Obj.data_mapFields hd _)),(Obj.cls_mapFields ..).trans hc,(Obj.data_mapFields hd _).trans (by simp[rawInt])⟩ (Heap.SameBut.update ..))⟩) (F.args_tuple_iterator_next_1 _)))
theorem x1C(hh:A.handled=none)(hi:s.heap.IsTupleIter it t i)(hl:s.heap.IsTuple t its)(hx:its[i]? = none):y1Z prog w A it s:=fun Q E k=>by
 obtain⟨o,ho,hc,hd⟩:=id hi
 obtain⟨ol,hol,_,n,hdl⟩:=hl
 exact wpAny_bind (wpAny_callSpecial?_slot (name:=Str.ofString "__next__") hi.typeIs F.slot_tuple_iterator_next (wpAny_call_entry F.slot_tuple_iterator_next hi.typeIs F.entry_tuple_iterator_next
  (tup_end hh ho hd hol hdl hx k) (F.args_tuple_iterator_next_1 _)))
end
section
variable{prog:dw}{w:eX}{A:Around}{E:Value->Shared->Prop}{s:Shared}{z TI TO i1 i2:Addr}{a b:Value}
def Stay(xs:List Addr)(h h':Heap):Prop:=∀c o,c∉xs->h.get? c=some o->h'.get? c=some o
theorem Stay.but{c:Addr}{xs:List Addr}{h h1 h2:Heap}(k:Stay xs h h1)(e:Heap.ExtBut c h1 h2)(hc:c∈xs):Stay xs h h2:=fun b o hb q=>e b o (fun z=>hb (z ▸ hc)) (k b o hb q)
theorem Stay.one{c:Addr}{xs:List Addr}{h h1:Heap}(e:Heap.ExtBut c h h1)(hc:c∈xs):Stay xs h h1:=fun b o hb q=>e b o (fun z=>hb (z ▸ hc)) q
theorem Stay.wide{xs ys:List Addr}{h h1:Heap}(k:Stay xs h h1)(e:∀c∈xs,c∈ys):Stay ys h h1:=fun b o hb q=>k b o (fun z=>hb (e b z)) q
set_option maxHeartbeats 4000000 in
theorem zip_nx{x y:Value}{S1 S2:Heap->Prop}{Q:Value->Shared->Prop}(nd:[z,TI,TO,i1,i2].Nodup)(hz:IsZip s.heap z TI TO .none)(hI:ft s.heap TI (.ref i1) (.ref i2))(hO:ft s.heap TO a b)
  (g1:∀h,Stay [z] s.heap h->z9A prog w A i1 { s with heap:=h } x S1) (g2:∀h,Stay [z,i1,TO] s.heap h->z9A prog w A i2 { s with heap:=h } y S2)
  (f1:∀h h',S1 h->(∀o,h.get? i1=some o->h'.get? i1=some o)->S1 h') (f2:∀h h',S2 h->(∀o,h.get? i2=some o->h'.get? i2=some o)->S2 h')
  (k:∀h',IsZip h' z TI TO (rawInt s.heap.objs.size)->ft h' TO x y->S1 h'->S2 h'->ft h' s.heap.objs.size x y->Stay [z,TO,i1,i2] s.heap h'->Q (.ref s.heap.objs.size) { s with heap:=h' }):
  wpAny (model prog w) A (Builtin.«zip.__next__» ⟨[.ref z],[]⟩) (fun f s'=>∃v,f = .done (.ret v)∧Q v s') E s:=by
 simp only[aw,ao,bj,or_false,not_or]at nd
 obtain⟨⟨zI,zO,z1,z2⟩,⟨IO,I1,I2⟩,⟨O1,O2⟩,⟨h12,_⟩⟩:=nd
 obtain⟨hp,g,d,tk,os⟩:=s
 have hz:hp.get? z=some ⟨.type "zip",none,.fields #[.none,.bool false,.bool false,.ref TI,.ref TO],#[]⟩:=hz
 have hI:hp.get? TI=some ⟨.type "tuple",none,.seq #[.ref i1,.ref i2] 0,#[]⟩:=hI
 have hO:hp.get? TO=some ⟨.type "tuple",none,.seq #[a,b] 0,#[]⟩:=hO
 have G1:∀(h:Heap) (Q:Value->Shared->Prop) (E:Value->Shared->Prop),(∀h',S1 h'->Heap.SameBut i1 h h'->Q x ⟨h',g,d,tk,os⟩)->Stay [z] hp h->wpAny (model prog w) A (Builtin.SmallTypes.nextOf (.ref i1)) Q E ⟨h,g,d,tk,os⟩:=fun h Q E k st=>g1 h st Q E k
 have G2:∀(h:Heap) (Q:Value->Shared->Prop) (E:Value->Shared->Prop),(∀h',S2 h'->Heap.SameBut i2 h h'->Q y ⟨h',g,d,tk,os⟩)->Stay [z,i1,TO] hp h->wpAny (model prog w) A (Builtin.SmallTypes.nextOf (.ref i2)) Q E ⟨h,g,d,tk,os⟩:=fun h Q E k st=>g2 h st Q E k
 clear g1 g2
 wp_walk using wpAny_onRaise,G1
 ·intro hb t1 sb
  have za:(hp.update z (Obj.mapFields fun x=>x.setIfInBounds 0 Value.ellipsis)).get? z=some ⟨.type "zip",none,.fields #[.ellipsis,.bool false,.bool false,.ref TI,.ref TO],#[]⟩:=Heap.get?_update_self _ hz rfl
  have sa:Heap.SameBut z hp (hp.update z (Obj.mapFields fun x=>x.setIfInBounds 0 Value.ellipsis)):=Heap.SameBut.update ..
  generalize hp.update z (Obj.mapFields fun x=>x.setIfInBounds 0 Value.ellipsis)=ha at za sa sb
  have zb:hb.get? z=some ⟨.type "zip",none,.fields #[.ellipsis,.bool false,.bool false,.ref TI,.ref TO],#[]⟩:=(sb.2 z z1).trans za
  have ob:hb.get? TO=some ⟨.type "tuple",none,.seq #[a,b] 0,#[]⟩:=(sb.2 TO O1).trans ((sa.2 TO (Ne.symm zO)).trans hO)
  have stb:Stay [z,i1,TO] hp hb:=(Stay.one sa.extBut (by simp)).but sb.extBut (by simp)
  wp_walk using wpAny_onRaise,G2
  ·intro hd t2 sd
   have oc:(hb.update TO (Obj.mapSeq fun v=>v.setIfInBounds 0 x)).get? TO=some ⟨.type "tuple",none,.seq #[x,b] 0,#[]⟩:=Heap.get?_update_self _ ob rfl
   have sc:Heap.SameBut TO hb (hb.update TO (Obj.mapSeq fun v=>v.setIfInBounds 0 x)):=Heap.SameBut.update ..
   generalize hb.update TO (Obj.mapSeq fun v=>v.setIfInBounds 0 x)=hc at oc sc sd
   have zd:hd.get? z=some ⟨.type "zip",none,.fields #[.ellipsis,.bool false,.bool false,.ref TI,.ref TO],#[]⟩:=(sd.2 z z2).trans ((sc.2 z zO).trans zb)
   have od:hd.get? TO=some ⟨.type "tuple",none,.seq #[x,b] 0,#[]⟩:=(sd.2 TO O2).trans oc
   have std:Stay [z,TO,i1,i2] hp hd:=((stb.wide (by simp)).but sc.extBut (by simp)).but sd.extBut (by simp)
   have t1d:S1 hd:=f1 _ _ t1 fun o q=>(sd.2 i1 h12).trans ((sc.2 i1 (Ne.symm O1)).trans q)
   have szd:hd.objs.size=hp.objs.size:=by rw[sd.1,sc.1,sb.1,sa.1]
   wp_walk
   have oe:(hd.update TO (Obj.mapSeq fun v=>v.setIfInBounds (0+1) y)).get? TO=some ⟨.type "tuple",none,.seq #[x,y] 0,#[]⟩:=Heap.get?_update_self _ od rfl
   have se:Heap.SameBut TO hd (hd.update TO (Obj.mapSeq fun v=>v.setIfInBounds (0+1) y)):=Heap.SameBut.update ..
   generalize hd.update TO (Obj.mapSeq fun v=>v.setIfInBounds (0+1) y)=he at oe se
   have sze:he.objs.size=hp.objs.size:=by rw[se.1,szd]
   have ze:(he.push ⟨.type "tuple",none,.seq #[x,y] 0,#[]⟩).get? z=some ⟨.type "zip",none,.fields #[.ellipsis,.bool false,.bool false,.ref TI,.ref TO],#[]⟩:=Heap.get?_push_of_some _ ((se.2 z zO).trans zd)
   have pe:(he.push ⟨.type "tuple",none,.seq #[x,y] 0,#[]⟩).get? he.objs.size=some ⟨.type "tuple",none,.seq #[x,y] 0,#[]⟩:=Heap.get?_push_size _ rfl
   have hne:he.objs.size≠z:=by rw[sze];exact cF (Heap.lt_size hz)
   have zf:=Heap.get?_update_self (Obj.mapFields fun v=>v.setIfInBounds 0 (rawInt he.objs.size)) ze rfl
   have zg:=Heap.get?_update_self (Obj.mapFields fun v=>v.setIfInBounds 1 (.bool false)) zf rfl
   have sg:∀c o,c≠z->he.get? c=some o->(((he.push ⟨.type "tuple",none,.seq #[x,y] 0,#[]⟩).update z (Obj.mapFields fun v=>v.setIfInBounds 0 (rawInt he.objs.size))).update z (Obj.mapFields fun v=>v.setIfInBounds 1 (.bool false))).get? c=some o:=fun c o hc q=>
    (Heap.SameBut.update ..).extBut _ _ hc ((Heap.SameBut.update ..).extBut _ _ hc (Heap.get?_push_of_some _ q))
   refine⟨_,rfl,?_⟩
   have pg:(((he.push ⟨.type "tuple",none,.seq #[x,y] 0,#[]⟩).update z (Obj.mapFields fun v=>v.setIfInBounds 0 (rawInt he.objs.size))).update z (Obj.mapFields fun v=>v.setIfInBounds 1 (.bool false))).get? he.objs.size=some ⟨.type "tuple",none,.seq #[x,y] 0,#[]⟩:=
    (Heap.SameBut.update ..).extBut _ _ hne ((Heap.SameBut.update ..).extBut _ _ hne pe)
   have ste:Stay [z,TO,i1,i2] hp he:=std.but se.extBut (by simp)
   have k1:=k _ (by rw[←sze];exact zg) (sg TO _ (Ne.symm zO) oe) (f1 _ _ t1d fun o q=>sg i1 o (Ne.symm z1) ((se.2 i1 (Ne.symm O1)).trans q)) (f2 _ _ t2 fun o q=>sg i2 o (Ne.symm z2) ((se.2 i2 (Ne.symm O2)).trans q)) (by rw[←sze];exact pg)
    fun c o hc q=>sg c o (fun e=>hc (by simp[e])) (ste c o hc q)
   rw[←sze]at k1
   exact k1
  ·exact stb.but (Heap.SameBut.update ..).extBut (by simp)
 ·exact Stay.one (Heap.SameBut.update ..).extBut (by simp)
set_option maxHeartbeats 4000000 in
theorem zip_e1{Q:Fin->Shared->Prop}(nd:[z,TI,TO,i1,i2].Nodup)(hz:IsZip s.heap z TI TO .none)(hI:ft s.heap TI (.ref i1) (.ref i2))(hO:ft s.heap TO a b)
  (g1:∀h,Stay [z] s.heap h->y1Z prog w A i1 { s with heap:=h })
  (k:∀h' e,Stay [z,TO,i1,i2] s.heap h'->(∃o,h'.get? e=some o∧o.cls = .type "StopIteration")->E (.ref e) { s with heap:=h' }):
  wpAny (model prog w) A (Builtin.«zip.__next__» ⟨[.ref z],[]⟩) Q E s:=by
 simp only[aw,ao,bj,or_false,not_or]at nd
 obtain⟨⟨zI,zO,z1,z2⟩,⟨IO,I1,I2⟩,⟨O1,O2⟩,⟨h12,_⟩⟩:=nd
 obtain⟨hp,g,d,tk,os⟩:=s
 have hz:hp.get? z=some ⟨.type "zip",none,.fields #[.none,.bool false,.bool false,.ref TI,.ref TO],#[]⟩:=hz
 have hI:hp.get? TI=some ⟨.type "tuple",none,.seq #[.ref i1,.ref i2] 0,#[]⟩:=hI
 have hO:hp.get? TO=some ⟨.type "tuple",none,.seq #[a,b] 0,#[]⟩:=hO
 have G1:∀(h:Heap) (Q:Value->Shared->Prop) (E:Value->Shared->Prop),(∀h' e,Heap.ExtBut i1 h h'->(∃o,h'.get? e=some o∧o.cls = .type "StopIteration")->E (.ref e) ⟨h',g,d,tk,os⟩)->Stay [z] hp h->wpAny (model prog w) A (Builtin.SmallTypes.nextOf (.ref i1)) Q E ⟨h,g,d,tk,os⟩:=fun h Q E k st=>g1 h st Q E k
 clear g1
 wp_walk using wpAny_onRaise,G1
 ·intro hb e sb he
  have za:(hp.update z (Obj.mapFields fun x=>x.setIfInBounds 0 Value.ellipsis)).get? z=some ⟨.type "zip",none,.fields #[.ellipsis,.bool false,.bool false,.ref TI,.ref TO],#[]⟩:=Heap.get?_update_self _ hz rfl
  have sa:Heap.SameBut z hp (hp.update z (Obj.mapFields fun x=>x.setIfInBounds 0 Value.ellipsis)):=Heap.SameBut.update ..
  generalize hp.update z (Obj.mapFields fun x=>x.setIfInBounds 0 Value.ellipsis)=ha at za sa sb
  have zb:hb.get? z=some ⟨.type "zip",none,.fields #[.ellipsis,.bool false,.bool false,.ref TI,.ref TO],#[]⟩:=sb z _ z1 za
  have stb:Stay [z,TO,i1,i2] hp hb:=(Stay.one sa.extBut (by simp)).but sb (by simp)
  obtain⟨oe,ee,ec⟩:=he
  have ez:e≠z:=fun q=>by subst q;rw[zb]at ee;cases ee;simp at ec
  wp_walk
  exact k _ _ (stb.but (Heap.SameBut.update ..).extBut (by simp)) ⟨oe,(Heap.SameBut.update ..).extBut _ _ ez ee,ec⟩
 ·exact Stay.one (Heap.SameBut.update ..).extBut (by simp)
set_option maxHeartbeats 4000000 in
theorem zip_e2{x:Value}{S1:Heap->Prop}{Q:Fin->Shared->Prop}(nd:[z,TI,TO,i1,i2].Nodup)(hz:IsZip s.heap z TI TO .none)(hI:ft s.heap TI (.ref i1) (.ref i2))(hO:ft s.heap TO a b)
  (g1:∀h,Stay [z] s.heap h->z9A prog w A i1 { s with heap:=h } x S1) (g2:∀h,Stay [z,i1,TO] s.heap h->y1Z prog w A i2 { s with heap:=h })
  (k:∀h' e,Stay [z,TO,i1,i2] s.heap h'->(∃o,h'.get? e=some o∧o.cls = .type "StopIteration")->E (.ref e) { s with heap:=h' }):
  wpAny (model prog w) A (Builtin.«zip.__next__» ⟨[.ref z],[]⟩) Q E s:=by
 simp only[aw,ao,bj,or_false,not_or]at nd
 obtain⟨⟨zI,zO,z1,z2⟩,⟨IO,I1,I2⟩,⟨O1,O2⟩,⟨h12,_⟩⟩:=nd
 obtain⟨hp,g,d,tk,os⟩:=s
 have hz:hp.get? z=some ⟨.type "zip",none,.fields #[.none,.bool false,.bool false,.ref TI,.ref TO],#[]⟩:=hz
 have hI:hp.get? TI=some ⟨.type "tuple",none,.seq #[.ref i1,.ref i2] 0,#[]⟩:=hI
 have hO:hp.get? TO=some ⟨.type "tuple",none,.seq #[a,b] 0,#[]⟩:=hO
 have G1:∀(h:Heap) (Q:Value->Shared->Prop) (E:Value->Shared->Prop),(∀h',S1 h'->Heap.SameBut i1 h h'->Q x ⟨h',g,d,tk,os⟩)->Stay [z] hp h->wpAny (model prog w) A (Builtin.SmallTypes.nextOf (.ref i1)) Q E ⟨h,g,d,tk,os⟩:=fun h Q E k st=>g1 h st Q E k
 have G2:∀(h:Heap) (Q:Value->Shared->Prop) (E:Value->Shared->Prop),(∀h' e,Heap.ExtBut i2 h h'->(∃o,h'.get? e=some o∧o.cls = .type "StopIteration")->E (.ref e) ⟨h',g,d,tk,os⟩)->Stay [z,i1,TO] hp h->wpAny (model prog w) A (Builtin.SmallTypes.nextOf (.ref i2)) Q E ⟨h,g,d,tk,os⟩:=fun h Q E k st=>g2 h st Q E k
 clear g1 g2
 wp_walk using wpAny_onRaise,G1
 ·intro hb t1 sb
  have za:(hp.update z (Obj.mapFields fun x=>x.setIfInBounds 0 Value.ellipsis)).get? z=some ⟨.type "zip",none,.fields #[.ellipsis,.bool false,.bool false,.ref TI,.ref TO],#[]⟩:=Heap.get?_update_self _ hz rfl
  have sa:Heap.SameBut z hp (hp.update z (Obj.mapFields fun x=>x.setIfInBounds 0 Value.ellipsis)):=Heap.SameBut.update ..
  generalize hp.update z (Obj.mapFields fun x=>x.setIfInBounds 0 Value.ellipsis)=ha at za sa sb
  have zb:hb.get? z=some ⟨.type "zip",none,.fields #[.ellipsis,.bool false,.bool false,.ref TI,.ref TO],#[]⟩:=(sb.2 z z1).trans za
  have ob:hb.get? TO=some ⟨.type "tuple",none,.seq #[a,b] 0,#[]⟩:=(sb.2 TO O1).trans ((sa.2 TO (Ne.symm zO)).trans hO)
  have stb:Stay [z,i1,TO] hp hb:=(Stay.one sa.extBut (by simp)).but sb.extBut (by simp)
  wp_walk using wpAny_onRaise,G2
  ·intro hd e sd he
   have sc:Heap.SameBut TO hb (hb.update TO (Obj.mapSeq fun v=>v.setIfInBounds 0 x)):=Heap.SameBut.update ..
   generalize hb.update TO (Obj.mapSeq fun v=>v.setIfInBounds 0 x)=hc at sc sd
   have zd:hd.get? z=some ⟨.type "zip",none,.fields #[.ellipsis,.bool false,.bool false,.ref TI,.ref TO],#[]⟩:=sd z _ z2 ((sc.2 z zO).trans zb)
   have std:Stay [z,TO,i1,i2] hp hd:=((stb.wide (by simp)).but sc.extBut (by simp)).but sd (by simp)
   obtain⟨oe,ee,ec⟩:=he
   have ez:e≠z:=fun q=>by subst q;rw[zd]at ee;cases ee;simp at ec
   wp_walk
   exact k _ _ (std.but (Heap.SameBut.update ..).extBut (by simp)) ⟨oe,(Heap.SameBut.update ..).extBut _ _ ez ee,ec⟩
  ·exact stb.but (Heap.SameBut.update ..).extBut (by simp)
 ·exact Stay.one (Heap.SameBut.update ..).extBut (by simp)
end
section
variable{prog:dw}{w:eX}{A:Around}{E:Value->Shared->Prop}{s:Shared}{z TI TO i1 i2:Addr}{a b:Value}
theorem pnx_zip{x y:Value}{S1 S2:Heap->Prop}{Q:Option Value->Shared->Prop}(nd:[z,TI,TO,i1,i2].Nodup)(hz:IsZip s.heap z TI TO .none)(hI:ft s.heap TI (.ref i1) (.ref i2))(hO:ft s.heap TO a b)
  (g1:∀A h,Stay [z] s.heap h->z9A prog w A i1 { s with heap:=h } x S1) (g2:∀A h,Stay [z,i1,TO] s.heap h->z9A prog w A i2 { s with heap:=h } y S2)
  (f1:∀h h',S1 h->(∀o,h.get? i1=some o->h'.get? i1=some o)->S1 h') (f2:∀h h',S2 h->(∀o,h.get? i2=some o->h'.get? i2=some o)->S2 h')
  (k:∀h',IsZip h' z TI TO (rawInt s.heap.objs.size)->ft h' TO x y->S1 h'->S2 h'->ft h' s.heap.objs.size x y->Stay [z,TO,i1,i2] s.heap h'->Q (some (.ref s.heap.objs.size)) { s with heap:=h' }):
  wpAny (model prog w) A (pyNext (.ref z)) Q E s:=
 have hT:s.TypeIs (.ref z) "zip" := ⟨_,hz,rfl⟩
 wpAny_bind (wpAny_attempt (wpAny_callSpecial?_slot (name:=Str.ofString "__next__") hT F.slot_zip_next (wpAny_call_entry F.slot_zip_next hT F.entry_zip_next
  (zip_nx nd hz hI hO (g1 _) (g2 _) f1 f2 fun h' a1 a2 a3 a4 a5 a6=>wpAny_pure (k h' a1 a2 a3 a4 a5 a6)) (F.args_zip_next_1 _))))
theorem pne_zip{Q:Option Value->Shared->Prop}(hh:A.handled=none)(nd:[z,TI,TO,i1,i2].Nodup)(hz:IsZip s.heap z TI TO .none)(hI:ft s.heap TI (.ref i1) (.ref i2))(hO:ft s.heap TO a b)
  (g:(∀A:Around,A.handled=none->∀h,Stay [z] s.heap h->y1Z prog w A i1 { s with heap:=h })∨((∃x S1,∀A h,Stay [z] s.heap h->z9A prog w A i1 { s with heap:=h } x S1)∧∀A:Around,A.handled=none->∀h,Stay [z,i1,TO] s.heap h->y1Z prog w A i2 { s with heap:=h }))
  (k:∀h',Stay [z,TO,i1,i2] s.heap h'->Q none { s with heap:=h' }):wpAny (model prog w) A (pyNext (.ref z)) Q E s:=by
 have hT:s.TypeIs (.ref z) "zip" := ⟨_,hz,rfl⟩
 have fin:∀h' e,Stay [z,TO,i1,i2] s.heap h'->(∃o,h'.get? e=some o∧o.cls = .type "StopIteration")->wpAny (model prog w) A (do if ←isInstance (.ref e) (.type "StopIteration")then pure none else throw (.ref e)) Q E { s with heap:=h' }:=fun h' e st ⟨o,ho,hc⟩=>
  wpAny_bind (wpAny_isInstance (T := "StopIteration") (b:=true) ⟨o,ho,hc⟩ isSubtype_stop (wpAny_pure (k _ st)))
 rcases g with g1 | ⟨⟨x,S1,g1⟩,g2⟩
 ·exact wpAny_bind (wpAny_attempt (wpAny_callSpecial?_slot (name:=Str.ofString "__next__") hT F.slot_zip_next (wpAny_call_entry F.slot_zip_next hT F.entry_zip_next (zip_e1 nd hz hI hO (g1 _ hh) fin) (F.args_zip_next_1 _))))
 ·exact wpAny_bind (wpAny_attempt (wpAny_callSpecial?_slot (name:=Str.ofString "__next__") hT F.slot_zip_next (wpAny_call_entry F.slot_zip_next hT F.entry_zip_next (zip_e2 nd hz hI hO (g1 _) (g2 _ hh) fin) (F.args_zip_next_1 _))))
abbrev zt1(h:Heap)(t:Addr):Heap:=h.push ⟨.type "tuple_iterator",none,.fields #[.ref t,.int 0 0],#[]⟩
abbrev zt2(h:Heap)(t l:Addr):Heap:=(zt1 h t).push ⟨.type "list_iterator",none,.fields #[.ref l,.int 0 0],#[]⟩
abbrev zt3(h:Heap)(t l:Addr):Heap:=(zt2 h t l).push ⟨.type "tuple",none,.seq #[.ref h.objs.size,.ref (zt1 h t).objs.size] 0,#[]⟩
abbrev zt4(h:Heap)(t l:Addr):Heap:=(zt3 h t l).push ⟨.type "tuple",none,.seq #[.none,.none] 0,#[]⟩
abbrev zt5(h:Heap)(t l:Addr):Heap:=(zt4 h t l).push ⟨.type "zip",none,.fields #[.none,.bool false,.bool false,.ref (zt2 h t l).objs.size,.ref (zt3 h t l).objs.size],#[]⟩
theorem mz_new(t l:Addr)(xs ys:Array Value):Meets (Builtin.«zip.__new__» ⟨[.type "zip",.ref t,.ref l],[]⟩) fun _ R s=>s.heap.IsTuple t xs∧s.heap.IsList l ys∧R (.ok (.ret (.ref (zt4 s.heap t l).objs.size))) { s with heap:=zt5 s.heap t l }:=
 .of_wp fun prog w A R s h=>by
  obtain⟨ht,hl,h⟩:=h
  obtain⟨hp,g,d,tk,os⟩:=s
  have q0:=sub_zip
  have q1:Heap.IsTuple (Shared.heap ⟨hp,g,d,tk,os⟩) t xs:=ht
  have q2:Heap.IsList (Shared.heap ⟨zt1 hp t,g,d,tk,os⟩) l ys:=Heap.IsList.push hl _
  wp_walk using wpAny_pyIter_tuple q1,wpAny_pyIter_list q2
  exact⟨_,rfl,h⟩
theorem y9y{t l:Addr}{xs ys:Array Value}{Q:Value->Shared->Prop}(ht:s.heap.IsTuple t xs)(hl:s.heap.IsList l ys)
  (h:∀h',IsZip h' (s.heap.objs.size+4) (s.heap.objs.size+2) (s.heap.objs.size+3) .none->ft h' (s.heap.objs.size+2) (.ref s.heap.objs.size) (.ref (s.heap.objs.size+1))->ft h' (s.heap.objs.size+3) .none .none →
   h'.IsTupleIter s.heap.objs.size t 0->h'.IsListIter (s.heap.objs.size+1) l 0->(∀c o,s.heap.get? c=some o->h'.get? c=some o)->Q (.ref (s.heap.objs.size+4)) { s with heap:=h' }):
  wpAny (model prog w) A (call (.type "zip") [.ref t,.ref l]) Q E s:=by
 refine callType_new F.called_zip (by decide) (F.typeCall_zip_2 _ _) (F.newCall_zip_2 _ _) (fun obj=>F.args_object_init_3 obj _ _) F.entry_zip_new (mz_new t l xs ys) ⟨ht,hl,?_⟩
 have n1:(zt1 s.heap t).objs.size=s.heap.objs.size+1:=Heap.size_push ..
 have n2:(zt2 s.heap t l).objs.size=s.heap.objs.size+2:=(Heap.size_push ..).trans (by rw[n1])
 have n3:(zt3 s.heap t l).objs.size=s.heap.objs.size+3:=(Heap.size_push ..).trans (by rw[n2])
 have n4:(zt4 s.heap t l).objs.size=s.heap.objs.size+4:=(Heap.size_push ..).trans (by rw[n3])
 have up1:∀{c o},s.heap.get? c=some o->(zt1 s.heap t).get? c=some o:=fun q=>Heap.get?_push_of_some _ q
 have up2:∀{c o},(zt1 s.heap t).get? c=some o->(zt2 s.heap t l).get? c=some o:=fun q=>Heap.get?_push_of_some _ q
 have up3:∀{c o},(zt2 s.heap t l).get? c=some o->(zt3 s.heap t l).get? c=some o:=fun q=>Heap.get?_push_of_some _ q
 have up4:∀{c o},(zt3 s.heap t l).get? c=some o->(zt4 s.heap t l).get? c=some o:=fun q=>Heap.get?_push_of_some _ q
 have up5:∀{c o},(zt4 s.heap t l).get? c=some o->(zt5 s.heap t l).get? c=some o:=fun q=>Heap.get?_push_of_some _ q
 have a1:(zt1 s.heap t).get? s.heap.objs.size=some ⟨.type "tuple_iterator",none,.fields #[.ref t,.int 0 0],#[]⟩:=Heap.get?_push_size _ rfl
 have a2:(zt2 s.heap t l).get? (s.heap.objs.size+1)=some ⟨.type "list_iterator",none,.fields #[.ref l,.int 0 0],#[]⟩:=by rw[←n1];exact Heap.get?_push_size _ rfl
 have a3:(zt3 s.heap t l).get? (s.heap.objs.size+2)=some ⟨.type "tuple",none,.seq #[.ref s.heap.objs.size,.ref (s.heap.objs.size+1)] 0,#[]⟩:=by rw[←n2,←n1];exact Heap.get?_push_size _ rfl
 have a4:(zt4 s.heap t l).get? (s.heap.objs.size+3)=some ⟨.type "tuple",none,.seq #[.none,.none] 0,#[]⟩:=by rw[←n3];exact Heap.get?_push_size _ rfl
 have a5:(zt5 s.heap t l).get? (s.heap.objs.size+4)=some ⟨.type "zip",none,.fields #[.none,.bool false,.bool false,.ref (s.heap.objs.size+2),.ref (s.heap.objs.size+3)],#[]⟩:=by rw[←n4,←n2,←n3];exact Heap.get?_push_size _ rfl
 show _∧_
 rw[n4]
 exact⟨⟨_,a5,rfl⟩,h _ a5 (up5 (up4 a3)) (up5 a4) ⟨_,up5 (up4 (up3 (up2 a1))),rfl,rfl⟩ ⟨_,up5 (up4 (up3 a2)),rfl,rfl⟩ fun c o q=>up5 (up4 (up3 (up2 (up1 q))))⟩
end
def SqX(K:aa)(H:Hp)(tp:Bool)(a:Addr)(xs:List V):Prop:=if tp=true then SqT K H a xs else SqL K H a xs
def SIt(h:Heap)(tp:Bool)(it a:Addr)(i:Nat):Prop:=if tp=true then h.IsTupleIter it a i else h.IsListIter it a i
def SSq(h:Heap)(tp:Bool)(a:Addr)(its:Array Value):Prop:=if tp=true then h.IsTuple a its else h.IsList a its
theorem SIt.obj{h:Heap}{tp:Bool}{it a:Addr}{i:Nat}(x:SIt h tp it a i):∃o,h.get? it=some o∧(o.cls = .type "tuple_iterator" ∨ o.cls = .type "list_iterator")∧∃vs,o.data = .fields vs:=by
 cases tp with
 |true=>obtain⟨o,e,c,d⟩:=(show h.IsTupleIter it a i from x);exact⟨o,e,.inl c,_,d⟩
 |false=>obtain⟨o,e,c,d⟩:=(show h.IsListIter it a i from x);exact⟨o,e,.inr c,_,d⟩
theorem SSq.obj{h:Heap}{tp:Bool}{a:Addr}{its:Array Value}(x:SSq h tp a its):∃o,h.get? a=some o∧(o.cls = .type "tuple" ∨ o.cls = .type "list"):=by
 cases tp with
 |true=>obtain⟨o,e,c,_⟩:=(show h.IsTuple a its from x);exact⟨o,e,.inl c⟩
 |false=>obtain⟨o,e,c,_⟩:=(show h.IsList a its from x);exact⟨o,e,.inr c⟩
theorem SIt.at{h h':Heap}{tp:Bool}{it a:Addr}{i:Nat}(x:SIt h tp it a i)(k:∀o,h.get? it=some o->h'.get? it=some o):SIt h' tp it a i:=by
 cases tp with
 |true=>obtain⟨o,e,r⟩:=(show h.IsTupleIter it a i from x);exact⟨o,k o e,r⟩
 |false=>obtain⟨o,e,r⟩:=(show h.IsListIter it a i from x);exact⟨o,k o e,r⟩
theorem SSq.at{h h':Heap}{tp:Bool}{a:Addr}{its:Array Value}(x:SSq h tp a its)(k:∀o,h.get? a=some o->h'.get? a=some o):SSq h' tp a its:=by
 cases tp with
 |true=>obtain⟨o,e,r⟩:=(show h.IsTuple a its from x);exact⟨o,k o e,r⟩
 |false=>obtain⟨o,e,r⟩:=(show h.IsList a its from x);exact⟨o,k o e,r⟩
theorem y2K{prog:dw}{w:eX}{A:Around}{s:Shared}{tp:Bool}{it a:Addr}{i:Nat}{its:Array Value}{x:Value}(hi:SIt s.heap tp it a i)(hl:SSq s.heap tp a its)(hx:its[i]? = some x):z9A prog w A it s x fun h=>SIt h tp it a (i+1):=by
 cases tp with
 |true=>exact y8I hi hl hx
 |false=>exact y5d hi hl hx
theorem x2Q{prog:dw}{w:eX}{A:Around}{s:Shared}{tp:Bool}{it a:Addr}{i:Nat}{its:Array Value}(hh:A.handled=none)(hi:SIt s.heap tp it a i)(hl:SSq s.heap tp a its)(hx:its[i]? = none):y1Z prog w A it s:=by
 cases tp with
 |true=>exact x1C hh hi hl hx
 |false=>exact y9X hh hi hl hx
section
variable{X:Cx}{pins:List (Addr×Obj)}{σ:St}{H:Hp}{s:Shared}{a:Addr}{xs ys:List V}{tp:Bool}
theorem Inv.seqX(I:Inv X pins σ H s)(h:SqX X.K H tp a xs):∃its:List Value,Vals xs its∧SSq s.heap tp a its.toArray:=by
 cases tp with
 |true=>obtain⟨its,r,p,_⟩:=I.tuple h;exact⟨its,r,p⟩
 |false=>obtain⟨its,r,p,_⟩:=I.list h;exact⟨its,r,p.isList⟩
theorem Inv.seqX_inj(I:Inv X pins σ H s)(h:SqX X.K H tp a xs)(h':SqX X.K H tp a ys):xs=ys:=by
 cases tp with
 |true=>exact I.tuple_inj h h'
 |false=>exact I.list_inj h h'
end
def Itz(K:aa)(tp:Bool)(a b:Addr):It:=
 ⟨fun i H=>∃xs ys x y,SqX K H tp a xs∧SqL K H b ys∧xs[i]? = some x∧ys[i]? = some y,fun i H v H'=>∃p x y,H p=none∧v = .ref p∧H'=upd H p (.tup [x,y])∧∀xs ys,SqX K H tp a xs->SqL K H b ys->xs[i]? = some x∧ys[i]? = some y,
  fun i H=>∃xs ys,SqX K H tp a xs∧SqL K H b ys∧(xs.length≤i∨ys.length≤i)⟩
structure ZipAt(h:Heap)(tp:Bool)(a b z TI TO i1 i2:Addr)(i:Nat):Prop where
 zip:IsZip h z TI TO .none
 its:ft h TI (.ref i1) (.ref i2)
 out:∃u v,ft h TO u v
 one:SIt h tp i1 a i
 two:SIt h false i2 b i
theorem x0X{P:dw}{w:eX}{K:aa}{elts:List Expr}{x1}{tp:Pos}(tb:Bool)(a b z TI TO i1 i2:Addr)(nd:[z,TI,TO,i1,i2].Nodup):
  Turn P w K (.Tuple elts x1 tp) (Itz K tb a b) [z,TI,TO,i1,i2] z (fun i h=>ZipAt h tb a b z TI TO i1 i2 i) where
 mem:=by simp
 obj:=fun i h st c hc=>by
  obtain⟨u,v,ho⟩:=st.out
  obtain⟨o1,e1,_,vs1,d1⟩:=st.one.obj
  obtain⟨o2,e2,_,vs2,d2⟩:=st.two.obj
  simp only[ao,bj,or_false]at hc
  rcases hc with rfl | rfl | rfl | rfl | rfl
  ·exact⟨_,st.zip,fun v z=>by cases z⟩
  ·exact⟨_,st.its,fun v z=>by cases z⟩
  ·exact⟨_,ho,fun v z=>by cases z⟩
  ·exact⟨_,e1,fun v z=>by rw[d1]at z;cases z⟩
  ·exact⟨_,e2,fun v z=>by rw[d2]at z;cases z⟩
 keep:=fun i h h' st k=>by
  obtain⟨u,v,ho⟩:=st.out
  exact⟨k z (by simp) _ st.zip,k TI (by simp) _ st.its,⟨u,v,k TO (by simp) _ ho⟩,st.one.at fun o q=>k i1 (by simp) o q,st.two.at fun o q=>k i2 (by simp) o q⟩
 item:=by
  intro X hP hw hK hc i pins s σ H E I hf st hg
  subst hP hw hK
  obtain⟨xs,ys,x,y,hq1,hq2,hx,hy⟩:=hg
  obtain⟨l1,rv1,p1⟩:=I.seqX hq1
  obtain⟨l2,rv2,p2,_⟩:=I.list hq2
  have p2:SSq s.heap false b l2.toArray:=p2.isList
  obtain⟨u,hu,ru⟩:=rv1.get hx
  obtain⟨v,hv,rv⟩:=rv2.get hy
  obtain⟨q1,q2,hO⟩:=st.out
  obtain⟨o1,e1,c1⟩:=p1.obj
  obtain⟨o2,e2,c2⟩:=p2.obj
  have e2l:o2.cls = .type "list" := by
   obtain⟨o,e,c,_⟩:=(show s.heap.IsList b l2.toArray from p2)
   rw[e2]at e;cases e;exact c
  have az:a≠z:=fun q=>by rw[q,st.zip]at e1;cases e1;rcases c1 with c | c <;> simp at c
  have bz:b≠z:=fun q=>by rw[q,st.zip]at e2;cases e2;simp at e2l
  have bO:b≠TO:=fun q=>by rw[q,hO]at e2;cases e2;simp at e2l
  have b1:b≠i1:=fun q=>by
   obtain⟨o,e,c,_⟩:=st.one.obj
   rw[q,e]at e2;cases e2;rw[e2l]at c;rcases c with c | c <;> simp at c
  have nd':=nd
  simp only[aw,ao,bj,or_false,not_or]at nd'
  obtain⟨⟨zI,zO,z1,z2⟩,⟨IO,J1,J2⟩,⟨O1,O2⟩,⟨h12,_⟩⟩:=nd'
  have n1:∀c,c≠z->c∉[z]:=fun c h=>by simpa using h
  have n3:∀c,c≠z->c≠i1->c≠TO->c∉[z,i1,TO]:=fun c h h' h''=>by simp[h,h',h'']
  refine pnx_zip nd st.zip st.its hO (x:=u) (y:=v) (S1:=fun h=>SIt h tb i1 a (i+1)) (S2:=fun h=>SIt h false i2 b (i+1)) (fun A h k=>y2K (st.one.at fun o q=>k _ o (n1 _ (Ne.symm z1)) q) (p1.at fun o q=>k _ o (n1 _ az) q) (by simpa using hu))
   (fun A h k=>y2K (st.two.at fun o q=>k _ o (n3 _ (Ne.symm z2) (Ne.symm h12) (Ne.symm O2)) q) (p2.at fun o q=>k _ o (n3 _ bz b1 bO) q) (by simpa using hv)) (fun h h' t k=>SIt.at t k) (fun h h' t k=>SIt.at t k) fun h1 hz1 hO1 t1 t2 pr kp=>⟨_,rfl,?_⟩
  refine wpAny_letOwnedTupleGo_zip hz1 fun h2 hz2 sb=>?_
  have sb:Heap.SameBut z h1 h2:=sb
  have fpl:∀c∈[z,TI,TO,i1,i2],c<s.heap.objs.size:=fun c hc=>by
   obtain⟨_,e1,_⟩:=st.one.obj
   obtain⟨_,e2,_⟩:=st.two.obj
   simp only[ao,bj,or_false]at hc
   rcases hc with rfl | rfl | rfl | rfl | rfl
   ·exact Heap.lt_size st.zip
   ·exact Heap.lt_size st.its
   ·exact Heap.lt_size hO
   ·exact Heap.lt_size e1
   ·exact Heap.lt_size e2
  have hp:H s.heap.objs.size=none:=I.hok.fresh (aj _)
  have I1:Inv X pins σ (upd H s.heap.objs.size (.tup [x,y])) { s with heap:=s.heap.push ⟨.type "tuple",none,.seq #[u,v] 0,#[]⟩,toks:=s.toks }:=
   I.laid (fun c o q=>Heap.get?_push_of_some _ q) (aj _) (show ObjOk X.prog X.w _ _ _ (.tup [x,y]) from⟨by show 2≤sizeLine;rw[sizeLine_eq];decide,[u,v],.cons ru (.cons rv .nil),TupN.new _ _⟩)
  have hf1:∀c∈[z,TI,TO,i1,i2],y0O X pins (upd H s.heap.objs.size (.tup [x,y])) c:=fun c hc=>by
   obtain⟨f0,f⟩:=hf c hc
   exact⟨by rw[z0t (aG (fpl c hc))];exact f0,f⟩
  have kk:∀c o,c∉[z,TI,TO,i1,i2]->(s.heap.push ⟨.type "tuple",none,.seq #[u,v] 0,#[]⟩).get? c=some o->h2.get? c=some o:=fun c o hc q=>by
   have hcz:c≠z:=fun e=>hc (by simp[e])
   rw[sb.2 c hcz]
   by_cases hcs:c=s.heap.objs.size
   ·subst hcs
    have q2:(s.heap.push ⟨.type "tuple",none,.seq #[u,v] 0,#[]⟩).get? s.heap.objs.size=some ⟨.type "tuple",none,.seq #[u,v] 0,#[]⟩:=Heap.get?_push_size _ rfl
    rw[q2]at q
    cases q
    exact pr
   ·have q':s.heap.get? c=some o:=(Heap.get?_push_ne s.heap _ _ hcs).symm.trans q
    exact kp c o (fun e=>hc (by simp only[ao,bj,or_false]at e ⊢;rcases e with e | e | e | e <;> simp[e])) q'
  have I2:Inv X pins σ (upd H s.heap.objs.size (.tup [x,y])) { s with heap:=h2,toks:=s.toks }:=Inv.turnedL (s:={ s with heap:=s.heap.push ⟨.type "tuple",none,.seq #[u,v] 0,#[]⟩,toks:=s.toks }) (h':=h2) (t':=s.toks) (fp:=[z,TI,TO,i1,i2]) I1 kk hf1
  have up:∀c o,c≠z->h1.get? c=some o->h2.get? c=some o:=fun c o hc q=>(sb.2 c hc).trans q
  refine⟨.ref s.heap.objs.size,_,I2,rfl,⟨_,x,y,hp,rfl,rfl,fun xs' ys' h1 h2=>⟨by rw[I.seqX_inj h1 hq1];exact hx,by rw[I.list_inj h2 hq2];exact hy⟩⟩,
   ⟨hz2,up TI _ (Ne.symm zI) (kp TI _ (by simp[Ne.symm zI,IO,J1,J2]) st.its),⟨u,v,up TO _ (Ne.symm zO) hO1⟩,t1.at fun o q=>up i1 o (Ne.symm z1) q,t2.at fun o q=>up i2 o (Ne.symm z2) q⟩,fun c hc=>(hf1 c hc).1⟩
 done:=by
  intro X hP hw hK hc i pins s σ H E I hf st hg
  subst hP hw hK
  obtain⟨xs,ys,hq1,hq2,hle⟩:=hg
  obtain⟨l1,rv1,p1⟩:=I.seqX hq1
  obtain⟨l2,rv2,p2,_⟩:=I.list hq2
  have p2:SSq s.heap false b l2.toArray:=p2.isList
  obtain⟨q1,q2,hO⟩:=st.out
  obtain⟨o1,e1,c1⟩:=p1.obj
  obtain⟨o2,e2,c2⟩:=p2.obj
  have e2l:o2.cls = .type "list" := by
   obtain⟨o,e,c,_⟩:=(show s.heap.IsList b l2.toArray from p2)
   rw[e2]at e;cases e;exact c
  have az:a≠z:=fun q=>by rw[q,st.zip]at e1;cases e1;rcases c1 with c | c <;> simp at c
  have bz:b≠z:=fun q=>by rw[q,st.zip]at e2;cases e2;simp at e2l
  have bO:b≠TO:=fun q=>by rw[q,hO]at e2;cases e2;simp at e2l
  have b1:b≠i1:=fun q=>by
   obtain⟨o,e,c,_⟩:=st.one.obj
   rw[q,e]at e2;cases e2;rw[e2l]at c;rcases c with c | c <;> simp at c
  have nd':=nd
  simp only[aw,ao,bj,or_false,not_or]at nd'
  obtain⟨⟨zI,zO,z1,z2⟩,⟨IO,J1,J2⟩,⟨O1,O2⟩,⟨h12,_⟩⟩:=nd'
  have n1:∀c,c≠z->c∉[z]:=fun c h=>by simpa using h
  have n3:∀c,c≠z->c≠i1->c≠TO->c∉[z,i1,TO]:=fun c h h' h''=>by simp[h,h',h'']
  have hl1:=rv1.length
  have hl2:=rv2.length
  refine pne_zip (I.ok.hd hc) nd st.zip st.its hO ?_ fun h' kp=>⟨rfl,I.turnedL (t':=s.toks) (fp:=[z,TI,TO,i1,i2]) (fun c o hb q=>kp c o (fun e=>hb (by simp only[ao,bj,or_false]at e ⊢;rcases e with e | e | e | e <;> simp[e])) q) hf⟩
  by_cases h1:xs.length≤i
  ·exact .inl fun A hh h k=>x2Q hh (st.one.at fun o q=>k _ o (n1 _ (Ne.symm z1)) q) (p1.at fun o q=>k _ o (n1 _ az) q) (by simp;omega)
  ·have h2:ys.length≤i:=hle.resolve_left h1
   have hi:i<l1.length:=by omega
   exact .inr ⟨⟨l1[i],_,fun A h k=>y2K (st.one.at fun o q=>k _ o (n1 _ (Ne.symm z1)) q) (p1.at fun o q=>k _ o (n1 _ az) q) (by simp[hi])⟩,
    fun A hh h k=>x2Q hh (st.two.at fun o q=>k _ o (n3 _ (Ne.symm z2) (Ne.symm h12) (Ne.symm O2)) q) (p2.at fun o q=>k _ o (n3 _ bz b1 bO) q) (by simp;omega)⟩
 self:=fun _ _ _ _ _ st h=>wpAny_pyIter_zip st.zip h
def y5Q:List D->List D->List D
 |a::r,b::q=>.tup [a,b]::y5Q r q
 |_,_=>[]
def zipS:D->D->Option (List D)
 |.tup xs,.lst ys=>some (y5Q xs ys)
 |.lst xs,.lst ys=>some (y5Q xs ys)
 |_,_=>none
def dZip(f g:DE):DS->Option (List D):=fun δ=>(f δ).bind fun a=>(g δ).bind fun b=>zipS a b
theorem y9L:∀{ds es:List D} {i:Nat} {d e:D},ds[i]? = some d->es[i]? = some e->(y5Q ds es)[i]? = some (.tup [d,e])
 |x::r,y::q,0,d,e,h,h'=>by cases h;cases h';rfl
 |x::r,y::q,i+1,d,e,h,h'=>y9L (ds:=r) (es:=q) h h'
theorem y2u:∀{ds es:List D},(y5Q ds es).length=min ds.length es.length
 |[],_=>by simp[y5Q]
 |_::_,[]=>by simp[y5Q]
 |x::r,y::q=>by
  show(y5Q r q).length+1=min (r.length+1) (q.length+1)
  rw[y2u]
  omega
theorem y7q{K:aa}{H:Hp}{B:Addr->Prop}{tp:Bool}{a b:Addr}{xs ys:List V}{ds es:List D}(hs:∀H',Keep K B H H'->SqX K H' tp a xs)(hs2:∀H',Keep K B H H'->SqL K H' b ys)(r:Reps K H B ds xs)(r2:Reps K H B es ys):ItD K (Itz K tp a b) H B (y5Q ds es):=by
 have hl:=r.length
 have hl2:=r2.length
 refine⟨fun i H' kp hi=>?_,fun i H' kp hi=>?_,fun i H' v H2 kp hy=>?_⟩
 ·rw[y2u]at hi
  exact⟨xs,ys,xs[i]'(by omega),ys[i]'(by omega),hs H' kp,hs2 H' kp,ac _,ac _⟩
 ·rw[y2u]at hi
  exact⟨xs,ys,hs H' kp,hs2 H' kp,by omega⟩
 ·obtain⟨p,x,y,hp,rfl,rfl,hx⟩:=hy
  obtain⟨hx,hy⟩:=hx xs ys (hs H' kp) (hs2 H' kp)
  obtain⟨d,e,rd⟩:=(Reps.keep kp ds r).get' hx
  obtain⟨d2,e2,rd2⟩:=(Reps.keep kp es r2).get' hy
  refine⟨z0n hp,.tup [d,d2],fun _=>y9L e e2,?_⟩
  unfold Rep
  exact⟨p,_,rfl,SqT.of z0o,.cons (rd.mono (z0n hp)) (.one (rd2.mono (z0n hp)))⟩
def iZip(K:aa)(ta:TA):TI:=fun σ H R=>ta σ H fun vs H1=>∃tp a b,vs=[V.ref a,V.ref b]∧(∃xs,SqX K H1 tp a xs)∧(∃ys,SqL K H1 b ys)∧R (Itz K tp a b) H1
theorem pi_zip{X:Cx}{elts:List Expr}{x1}{tp p pos:Pos}{l m:Expr}{ta:TA}(hg:Gl X "zip")(hm:X.mg "zip" = none)(ha:PA X [l,m] ta)(hs:starEach [l,m] X.env=[(false,eval l X.env),(false,eval m X.env)]:=by rfl)(hs2:starEach [m] X.env=[(false,eval m X.env)]:=by rfl):
  PI X (.Tuple elts x1 tp) (.Call (.Name "zip" p) [l,m] [] pos) (iZip X.K ta):=by
 intro pins s σ H R I h
 refine wpAny_Call_Name_kw (z4E I hg hm boot_zip (PyProof.Rows.callWith_type1 (thn (ha pos pins s σ H _ I h) fun us s1 ⟨vs,H1,I1,r1,q1⟩=>?_) (by rw[hs,hs2]) (by rw[hs2];rfl)))
 obtain⟨tb,a,b,rfl,⟨xs,hq1⟩,⟨ys,hq2⟩,q⟩:=q1
 cases r1 with
 |cons ru r1=>
  obtain⟨v,rfl,rv⟩:=Vals.one r1
  cases ru
  cases rv
  obtain⟨l1,rv1,p1⟩:=I1.seqX hq1
  obtain⟨l2,rv2,p2,_⟩:=I1.list hq2
  have nd:[s1.heap.objs.size+4,s1.heap.objs.size+2,s1.heap.objs.size+3,s1.heap.objs.size,s1.heap.objs.size+1].Nodup:=by
   generalize s1.heap.objs.size=n
   show List.Nodup [(n+4:Nat),n+2,n+3,n,n+1]
   simp
  have fin:∀h',ZipAt h' tb a b (s1.heap.objs.size+4) (s1.heap.objs.size+2) (s1.heap.objs.size+3) s1.heap.objs.size (s1.heap.objs.size+1) 0->(∀c o,s1.heap.get? c=some o->h'.get? c=some o) →
    wpAny (model X.prog X.w) X.A (pyIter (.ref (s1.heap.objs.size+4))) (PIE X pins σ (.Tuple elts x1 tp) R) X.xe { s1 with heap:=h' }:=fun h' st kp=>by
   refine wpAny_pyIter_zip st.zip ?_
   have I2:Inv X pins σ H1 { s1 with heap:=h' }:=I1.kept (t':=s1.toks) kp
   refine⟨s1.heap.objs.size+4,[s1.heap.objs.size+4,s1.heap.objs.size+2,s1.heap.objs.size+3,s1.heap.objs.size,s1.heap.objs.size+1],_,_,H1,rfl,I2,x0X tb a b _ _ _ _ _ nd,st,fun c hc=>?_,q⟩
   have hc':s1.heap.objs.size≤c:=by
    simp only[ao,bj,or_false]at hc
    rcases hc with rfl | rfl | rfl | rfl | rfl
    ·exact cR _ _
    ·exact cR _ _
    ·exact cR _ _
    ·exact aj _
    ·exact cR _ _
   exact I1.fpOk hc' (I1.hok.fresh hc')
  cases tb with
  |true=>exact y9y p1 p2.isList fun h' z1 z2 z3 z4 z5 kp=>fin h' ⟨z1,z2,⟨_,_,z3⟩,z4,z5⟩ kp
  |false=>exact call_zip_2 p1 p2.isList fun h' z1 z2 z3 z4 z5 _ kp=>fin h' ⟨z1,z2,⟨_,_,z3⟩,z4,z5⟩ kp
theorem pi_zipD{X:Cx}{elts:List Expr}{x1}{tp p pos:Pos}{l m:Expr}{f g:DE}(hg:Gl X "zip")(hm:X.mg "zip" = none)(h1:PD X l f)(h2:PD X m g)(hs:starEach [l,m] X.env=[(false,eval l X.env),(false,eval m X.env)]:=by rfl)(hs2:starEach [m] X.env=[(false,eval m X.env)]:=by rfl):
  PID X (.Tuple elts x1 tp) (.Call (.Name "zip" p) [l,m] [] pos) (dZip f g):=(pi_zip hg hm (z0a h1 (z0a h2 z0b hs2) (by rw[hs,hs2])) hs hs2).imp fun σ H R ⟨B,δ,ds,hB,S,q,k⟩=>by
 unfold dZip at q
 cases e1:f δ with
 |none=>rw[e1]at q;cases q
 |some d1=>
 rw[e1]at q
 cases e2:g δ with
 |none=>rw[e2]at q;cases q
 |some d2=>
 rw[e2]at q
 have q':zipS d1 d2=some ds:=q
 have ea:z0m [f,g] δ=some [d1,d2]:=by unfold z0m z0m;rw[e1,e2];rfl
 refine⟨B,δ,[d1,d2],hB,S,ea,fun vs H1 s1 r1=>?_⟩
 unfold Reps at r1
 obtain⟨x,r,rfl,rx,rr⟩:=r1
 unfold Reps at rr
 obtain⟨y,r',rfl,ry,rr⟩:=rr
 unfold Reps at rr
 subst rr
 unfold zipS at q'
 split at q'
 ·cases q'
  unfold Rep at rx ry
  obtain⟨a,xs,rfl,h,rxs⟩:=rx
  obtain⟨b,ys,rfl,n,h',rys⟩:=ry
  refine⟨true,a,b,rfl,⟨xs,h⟩,⟨ys,SqL.of h'⟩,k _ H1 s1 fun C hC=>?_⟩
  have nb:¬ (B b∨C b):=fun z=>z.elim n fun z=>by rw[hC b z]at h';cases h'
  exact y7q (xs:=xs) (ys:=ys) (fun H' kp=>kp.st a xs h) (fun H' kp=>SqL.of (kp.sl b ys nb h')) (Reps.wide hC _ rxs) (Reps.wide hC _ rys)
 ·cases q'
  unfold Rep at rx ry
  obtain⟨a,xs,rfl,n1,h,rxs⟩:=rx
  obtain⟨b,ys,rfl,n,h',rys⟩:=ry
  refine⟨false,a,b,rfl,⟨xs,SqL.of h⟩,⟨ys,SqL.of h'⟩,k _ H1 s1 fun C hC=>?_⟩
  have na:¬ (B a∨C a):=fun z=>z.elim n1 fun z=>by rw[hC a z]at h;cases h
  have nb:¬ (B b∨C b):=fun z=>z.elim n fun z=>by rw[hC b z]at h';cases h'
  exact y7q (xs:=xs) (ys:=ys) (fun H' kp=>SqL.of (kp.sl a xs na h)) (fun H' kp=>SqL.of (kp.sl b ys nb h')) (Reps.wide hC _ rxs) (Reps.wide hC _ rys)
 ·cases q'
section
end
section
end
section
end
section
end
section
end
end L2
namespace PySem
section
set_option maxHeartbeats 3200000 in
open PyProof.Rows in
end
end PySem
namespace L2
open PySem PySem.Spec PyProof.Rows
section
end
section
end
section
end
section
end
section
end
section
end
section
end
section
end
section
end
instance{i j:Int}:Decidable (x2b i j):=by unfold x2b;infer_instance
def divN:D->D->Option D:=iop fun i j=>if x2b i j then some (.int (i.fdiv j))else none
def absF:List D->Option D
 |[.int n]=>some (.int (if n<0 then -n else n))
 |_=>none
section
variable{X:Cx}{a b e:Expr}{f g:DE}{p pos:Pos}
theorem pd_divN(ha:PD X a f)(hb:PD X b g):PD X (.BinOp a .FloorDiv b pos) (d2 divN f g):=y0k x0z z8l ha hb
theorem oa_abs{K:aa}:OpA K (fun xs H Q=>∃n:Int,xs=[.int n]∧Q (.int (if n<0 then -n else n)) H) absF:=by
 intro H B ds d vs Q hB hr q k
 unfold absF at q
 split at q
 ·cases q
  obtain⟨v,rfl,r⟩:=z4G hr
  unfold Rep at r
  subst r
  exact⟨_,rfl,k _ H (.refl H) rfl⟩
 ·cases q
theorem pd_abs(hg:Gl X "abs")(hm:X.mg "abs" = none)(h:PD X e f)(he:starEach [e] X.env=[(false,eval e X.env)]:=by rfl):PD X (.Call (.Name "abs" p) [e] [] pos) (z0k absF [f]):=
 z2O x1E oa_abs hg hm boot_abs (z0a h z0b he) (by decide) (by decide) he rfl
end
structure MethOk(P:dw)(w:eX)(K:aa)(mg:Str->Option Value)(base:Heap)(k:Nat)(cn m:Str)(sp:Sp):Prop where
 ok:∃(C f:Addr) (fd:eY) (ps:List Str),aE K mainGlobals cn=some (some (.ref C))∧L2.Cls K C∧Meth K C m f∧Binds K fd ps []∧FnOk P w K mg base CX0 k f fd ps sp
section
end
section
end
section
end
section
def bkKs:List Str:=["thing_count", "entries", "earlier", "next_number"]
def bk4{α:Type}(a b c d:α):List (Str×α):=[("thing_count",a),("entries",b),("earlier",c),("next_number",d)]
end
section
variable{K:aa}
def spI(K:aa):Sp:=fun vs H Q _=>∃(a C dx:Addr) (m:Int),vs=[.ref a,.int m]∧H a=some (.ins C dx [])∧y5z K C bkKs=true ∧
 ∀l1 l2 H',H l1=none->H l2=none->l1≠l2->H' a=some (.ins C dx (bk4 (.int m) (.ref l1) (.ref l2) (.int 0)))->H' l1=some (.lst [])->H' l2=some (.lst [])->(∀b o,b≠a->H b=some o->H' b=some o)->(∀b,H' b=none->H b=none)->Q .non H'
end
structure NewOk(P:dw)(w:eX)(K:aa)(mg:Str->Option Value)(base:Heap)(k:Nat)(cn:Str):Prop where
 ok:∃(C fi:Addr) (fd:eY) (ps:List Str),Mk K C fi∧mg cn=some (.ref C)∧aE K mainGlobals cn=some (some (.ref C))∧y5z K C bkKs=true∧Binds K fd ps []∧FnOk P w K mg base CX0 k fi fd ps (spI K)
section
end
section
end
end L2
theorem L2.eraseIdx_map{α β:Type}(f:α->β)(l:List α)(n:Nat):(l.eraseIdx n).map f=(l.map f).eraseIdx n:=by
 induction l generalizing n with
 |nil=>rfl
 |cons x r ih=>cases n with
  |zero=>rfl
  |succ n=>simp[ih]
namespace L2
open PySem PySem.Spec PyProof.Rows
def z6C(i j:Nat)(fk:DE):SS->Option Out:=fun δ=>(fk (z0A δ)).bind fun dk=>match dk,δ[i]?,δ[j]? with
 |.int p,some (some (.ow (.lst ds))),some (some (.ow (.lst es)))=>if ds.length<sizeLine∧(z8I ds).isSome=true∧(z8I es).isSome=true∧0≤p∧p<es.length∧es.length<sizeLine then(match es[p.toNat]? with
  |some (.int c)=>some (.nx (popS i j c ds (es.eraseIdx p.toNat) δ))
  |_=>none)else none
 |_,_,_=>none
section
variable{X:Cx}{H0:Hp}{B0:Addr->Prop}{fr:Bool}{RX:XR}{e:Expr}{pos ap cp ap2 cp2:Pos}{x y:Str}{px py:Pos}
theorem y8j{i j:Nat}{fk:DE}(hij:i≠j)(hx:PE X (.Name x px) (y5k i))(hy:PE X (.Name y py) (y5k j))(hk:PD X e fk)
  (hbase2:ff (.Name y py) "pop" X.env (eval (.Name y py) X.env)=eval (.Name y py) X.env:=by rfl)
  (hfew2:((e9 cp2 (starEach [e] X.env)).all (fun x=>!x.1)&&(backToKw cp2 (keywordEach [] X.env)).all (fun x=>x.1.isSome)&&decide ([e].length+([]:List fg).length+(if([]:List fg).isEmpty then 0 else 1)<30))=true:=by rfl)
  (hline2:(ap2.endLine==cp2.line)=true:=by rfl) (hs2:starEach [e] X.env=(false,eval e X.env)::starEach [] X.env:=by rfl)
  (hbase:ff (.Name x px) "append" X.env (eval (.Name x px) X.env)=eval (.Name x px) X.env:=by rfl)
  (hfew:((e9 cp (starEach [.Call (.Attribute (.Name y py) "pop" ap2) [e] [] cp2] X.env)).all (fun x=>!x.1)&&(backToKw cp (keywordEach [] X.env)).all (fun x=>x.1.isSome)&&decide ([Expr.Call (.Attribute (.Name y py) "pop" ap2) [e] [] cp2].length+([]:List fg).length+(if([]:List fg).isEmpty then 0 else 1)<30))=true:=by rfl)
  (hline:(ap.endLine==cp.line)=true:=by rfl) (hs:starEach [.Call (.Attribute (.Name y py) "pop" ap2) [e] [] cp2] X.env=(false,eval (.Call (.Attribute (.Name y py) "pop" ap2) [e] [] cp2) X.env)::starEach [] X.env:=by rfl)
  (hsw:swapsWith (.Call (.Attribute (.Name x px) "append" ap) [.Call (.Attribute (.Name y py) "pop" ap2) [e] [] cp2] [] cp) none pos.line X.env=pure false:=by rfl):
  PS X (.Expr (.Call (.Attribute (.Name x px) "append" ap) [.Call (.Attribute (.Name y py) "pop" ap2) [e] [] cp2] [] cp) pos) (tS X.K H0 B0 fr RX (z6C i j fk)):=
 PS.imp (z8t (x0H PySem.F.plainAttrs_list PySem.F.slot_list_append PySem.F.type_list_append z3Q hx
  (z0S (x0H PySem.F.plainAttrs_list PySem.F.slot_list_pop PySem.F.type_list_pop x0r hy (z0a hk z0b hs2) hbase2 hfew2 hline2 hs2 rfl) pa_nil hs) hbase hfew hline hs rfl) hsw) fun D σ H ⟨δ,R,o,rs,q,k⟩=>by
  unfold z6C at q
  cases ek:fk (z0A δ)with
  |none=>rw[ek]at q;cases q
  |some dk=>
  rw[ek,av]at q
  split at q
  case h_2=>cases q
  case h_1 p ds es ei ej=>
  split at q
  case isFalse=>cases q
  case isTrue hz=>
  split at q
  case h_2=>cases q
  case h_1 c ec=>
  cases q
  obtain⟨hl,n1,n2,p0,p1,p2⟩:=hz
  obtain⟨ns,en⟩:=bI.mp n1
  obtain⟨ms,em⟩:=bI.mp n2
  obtain⟨b,ys,B,evj,hb,tsj,eRj,ndj⟩:=rs.top ej
  obtain⟨a,xs,A,evi,ha,tsi,eRi,ndi⟩:=rs.top ei
  have e2:=z6o em
  rw[e2]at tsj
  obtain⟨ey,eB⟩:=z5C tsj
  refine⟨.ref a,evi,.inl ⟨rfl,xs,SqL.of ha⟩,.ref b,evj,.inl ⟨rfl,ys,SqL.of hb⟩,noB,z0A δ,[.int p],.no,rs.all,by show(fk (z0A δ)).bind _=_;rw[ek];rfl,fun vs H2 s2 r2=>?_⟩
  obtain⟨v,rfl,rv⟩:=z4G r2
  cases (show v=V.int p from rv)
  have lm:es.length=ms.length:=by rw[e2,ah]
  have yl:ys.length=es.length:=by rw[ey,ah,lm]
  have hix:ixN ys.length p=some p.toNat:=by
   unfold ixN
   rw[yl]
   rw[if_pos p0,if_pos p1]
  have ec':ys[p.toNat]? = some (.int c):=by
   rw[ey,aB]
   rw[e2,aB]at ec
   cases eq:ms[p.toNat]? with
   |none=>rw[eq]at ec;cases ec
   |some z=>rw[eq]at ec;cases ec;rfl
  refine⟨b,ys,p,p.toNat,.int c,rfl,rfl,s2 _ _ hb,by have:=sizeLine_eq;omega,by have:=sizeLine_eq;omega,(y2i hix).1,ec',?_⟩
  have P1:=rs.put0 s2 ej evj eRj ndj (ds':=es.eraseIdx p.toNat) (xs':=ys.eraseIdx p.toNat) (A':=[]) (by
   rw[ey,e2,←eraseIdx_map,←eraseIdx_map]
   exact z5u _) bc fun b hb=>nomatch hb
  have ei':((z0y j δ).set j (some (.ow (.lst (es.eraseIdx p.toNat)))))[i]? = some (some (.ow (.lst ds))):=by
   rw[bn (Ne.symm hij)]
   exact y8H ei
  obtain⟨a',xs',A',evi',ha',tsi',eRi',ndi'⟩:=P1.1.top ei'
  rw[evi]at evi'
  cases evi'
  have lx:=tsi'.length
  have tsi2:=tsi'
  rw[z6o en]at tsi2
  obtain⟨ex,_⟩:=z5C tsi2
  refine⟨a,xs',.int c,rfl,rfl,ha',by rw[←lx];exact hl,?_⟩
  have tn:Trees X.K (upd H2 b (.lst (ys.eraseIdx p.toNat))) (ds++[.int c]) (xs'++[.int c]) []:=by
   rw[ex,z6o en]
   have:=z5u (K:=X.K) (H:=upd H2 b (.lst (ys.eraseIdx p.toNat))) (ns++[c])
   rw[aD,aD]at this
   exact this
  have P2:=P1.1.put0 (.refl _) ei' evi eRi' ndi' tn bc fun b hb=>nomatch hb
  exact k σ _ _ P2.1 (P1.2.trans P2.2)
end
structure MethX(P:dw)(w:eX)(K:aa)(mg:Str->Option Value)(base:Heap)(k:Nat)(cn m:Str)(sp:Sp):Prop where
 ok:∃(C f:Addr) (fd:eY) (ps:List Str),aE K mainGlobals cn=some (some (.ref C))∧L2.Cls K C∧Meth K C m f∧Binds K fd ps []∧FnOk P w K mg base (CXE P w) k f fd ps sp
section
end
section
end
inductive BO where
 |val (o d:D) | exc (c:Nat) (o:D)
section
end
section
end
inductive BR where
 |val (d:D) (δ:SS) | exc (c:Nat) (δ:SS)
section
end
section
end
section
end
structure RoomH(k:Nat)(A:Around):Prop where
 dp:A.depth+3*k+5<recursionLimit
 un:A.units+16*k+200<fw
structure FnOkH(P:dw)(w:eX)(K:aa)(mg:Str->Option Value)(base:Heap)(k:Nat)(f:Addr)(fd:eY)(ps:List Str)(sp:Sp):Prop where
 len:∀vs H Q E,sp vs H Q E->vs.length=ps.length
 run:∀(A:Around) (outer:List Env) (s:Shared) (H:Hp) (args:Args) (us:List Value) (vs:List V) (Q:VK) (E:XK),RoomH k A->Env0 P w K mg base A outer s H->BindsTo s fd args (ps.zip us)->Vals vs us->sp vs H Q E →
  codeAny (model P w) A (.call (.ref f) args) (CR CX0 outer P w H s Q E) s
structure DefH(P:dw)(w:eX)(K:aa)(mg:Str->Option Value)(base:Heap)(k:Nat)(x:Str)(sp:Sp):Prop where
 ok:∃(f:Addr) (fd:eY) (ps:List Str),mg x=some (.ref f)∧bE K (.ref f)=true∧Binds K fd ps []∧FnOkH P w K mg base k f fd ps sp
section
end
section
end
section
end
section
end
abbrev F3:=D->List D->D->Option (D×List D×D)
section
end
section
end
def ThrW(h:Heap)(e T:Addr)(cls w:Value):Prop:=∃oe vs oT ts,h.get? e=some oe∧oe.cls=cls∧oe.data = .fields vs∧vs[1]? = some (.ref T)∧T≠e∧h.get? T=some oT∧oT.data = .fields ts∧ts[3]? = some w∧oe.dict=none
structure GoneW(S ch:List Addr)(e:Addr)(cls w:Value)(h h':Heap):Prop where
 keep:∀b o,b∉S->b∉ch->h.get? b=some o->h'.get? b=some o
 slot:∀b o,b∈S->b∉ch->h.get? b=some o->∃sl,h'.get? b=some { o with slots:=sl }
 there:∀b o,h.get? b=some o->∃o',h'.get? b=some o'
 thr:∃T,h.objs.size≤T∧ThrW h' e T cls w
section
end
section
end
section
end
def altO(g h:SS->Option Out):SS->Option Out:=fun δ=>match g δ with
 |some o=>some o
 |none=>h δ
def excO(F:DS->Option XO):SS->Option Out:=fun δ=>(F (z0A δ)).bind fun o=>match o with
 |.exc c=>some (.ex c δ)
 |_=>none
section
variable{X:Cx}{st:Stmt}{g h:SS->Option Out}{H0:Hp}{B0:Addr->Prop}{fr:Bool}{RX:XR}
theorem s_or(h1:PS X st (tS X.K H0 B0 fr RX g))(h2:PS X st (tS X.K H0 B0 fr RX h)):PS X st (tS X.K H0 B0 fr RX (altO g h)):=fun pins s σ H D I ⟨δ,R,o,rs,q,k⟩=>by
 unfold altO at q
 cases e:g δ with
 |some o'=>
  rw[e]at q
  cases q
  exact h1 pins s σ H D I ⟨δ,R,o,rs,e,k⟩
 |none=>
  rw[e]at q
  exact h2 pins s σ H D I ⟨δ,R,o,rs,q,k⟩
end
section
variable{X:Cx}{k:Nat}{e:Expr}{rpos:Pos}{F:DS->Option XO}{H0:Hp}{B0:Addr->Prop}{fr:Bool}{RX:XR}
def tEx(K:aa)(RX:XR)(F:DS->Option XO):TE:=fun σ H _=>∃δ c,RepS K H noB σ δ∧F δ=some (.exc c)∧∀H',Same H H'->RX c σ H'
theorem s_retCE(h:PE X e (tEx X.K RX F)):PS X (.Return (some e) rpos) (tS X.K H0 B0 fr RX (excO F)):=PS.imp (z8i h) fun D σ H ⟨δ,R,o,rs,q,k⟩=>by
 unfold excO at q
 cases e1:F (z0A δ)with
 |none=>rw[e1]at q;cases q
 |some xo=>
 rw[e1,av]at q
 cases xo with
 |val d=>cases q
 |exc c=>
  cases q
  exact⟨z0A δ,c,rs.all,e1,fun H' s'=>k σ H' R (rs.mono s') (.same s')⟩
end
section
end
section
end
section
end
def tXn(K:aa)(RX:XR)(F:DS->Option XO):TE:=fun σ H Q=>∃δ o,RepS K H noB σ δ∧F δ=some o∧(match o with
 |.val d=>∀v H',Same H H'->Rep K H' noB d v->Q v H'
 |.exc c=>∀H',Same H H'->RX c σ H')
section
variable{X:Cx}{k:Nat}{e:Expr}{F:DS->Option XO}{RX:XR}
theorem px_nX(h:PE X e (tX X.K RX F)):PE X e (tXn X.K RX F):=h.imp fun σ H Q ⟨δ,o,S,q,k⟩=>by
 refine⟨δ,o,S,q,?_⟩
 cases o with
 |exc c=>exact k
 |val d=>exact fun v H' A s t _ _=>k v H' s (t.rep d fun _ _ z=>z.elim)
theorem pe_exX(h:PE X e (tXn X.K RX F)):PE X e (tEx X.K RX F):=h.imp fun σ H Q ⟨δ,c,S,q,k⟩=>⟨δ,.exc c,S,q,k⟩
end
section
end
section
variable{X:Cx}{H0:Hp}{B0:Addr->Prop}{fr:Bool}{RX:XR}
theorem sb{st:Stmt}{g:SS->Option Out}(h:PS X st (tS X.K H0 B0 fr RX g)):PSb X st (tS X.K H0 B0 fr RX g):=by
 unfold PSb
 exact h
end
section
end
def FnG(K:aa)(x:Str)(st:Stmt):Prop:=∃f fd,aE K mainGlobals x=some (some (.ref f))∧Fun K x x st f fd
def FnB(K:aa)(mg:Str->Option Value)(x:Str)(st:Stmt)(ps:List Str):Prop:=∃f fd,Fun K x x st f fd∧mg x=some (.ref f)∧Binds K fd ps []
section
variable{K:aa}{x:Str}{st:Stmt}{h:Heap}{mg:Str->Option Value}
theorem fg_of{ps:List Str}(X:K.In h)(G:h.Ns mainGlobals mg)(F:FnG K x st)(hb:∀(kV doc pm:Value) (an:Option Addr) (cdv ct:Value) (us:List Value),us.length=ps.length->bindArgs (bu x x (z2x st) (z1f st) (z0e st) .none kV doc pm an cdv ct) ⟨us,[]⟩=pure (ps.zip us)):FnB K mg x st ps:=
 let⟨f,fd,a,F⟩:=F
 ⟨f,fd,F,dL X G a,F.binds hb⟩
theorem fg1{p0:Str}(X:K.In h)(G:h.Ns mainGlobals mg)(F:FnG K x st)(hb:∀(kV doc pm:Value) (an:Option Addr) (cdv ct u0:Value),bindArgs (bu x x (z2x st) (z1f st) (z0e st) .none kV doc pm an cdv ct) ⟨[u0],[]⟩=pure ([p0].zip [u0]):=by intros;rfl):FnB K mg x st [p0]:=
 fg_of X G F fun _ _ _ _ _ _ us hl=>match us,hl with | [_],_=>hb _ _ _ _ _ _ _
theorem fg2{p0 p1:Str}(X:K.In h)(G:h.Ns mainGlobals mg)(F:FnG K x st)(hb:∀(kV doc pm:Value) (an:Option Addr) (cdv ct u0 u1:Value),bindArgs (bu x x (z2x st) (z1f st) (z0e st) .none kV doc pm an cdv ct) ⟨[u0,u1],[]⟩=pure ([p0,p1].zip [u0,u1]):=by intros;rfl):FnB K mg x st [p0,p1]:=
 fg_of X G F fun _ _ _ _ _ _ us hl=>match us,hl with | [_,_],_=>hb _ _ _ _ _ _ _ _
theorem fg3{p0 p1 p2:Str}(X:K.In h)(G:h.Ns mainGlobals mg)(F:FnG K x st)(hb:∀(kV doc pm:Value) (an:Option Addr) (cdv ct u0 u1 u2:Value),bindArgs (bu x x (z2x st) (z1f st) (z0e st) .none kV doc pm an cdv ct) ⟨[u0,u1,u2],[]⟩=pure ([p0,p1,p2].zip [u0,u1,u2]):=by intros;rfl):FnB K mg x st [p0,p1,p2]:=
 fg_of X G F fun _ _ _ _ _ _ us hl=>match us,hl with | [_,_,_],_=>hb _ _ _ _ _ _ _ _ _
theorem FnB.on{ps:List Str}{C:Prop}(B:FnB K mg x st ps)(k:∀{f:Addr} {fd:eY},Fun K x x st f fd->mg x=some (.ref f)->Binds K fd ps []->C):C:=
 let⟨_,_,F,m,b⟩:=B
 k F m b
theorem z0x{N P:List Str}{sc:fu}(h:N.Nodup∧(∀x∈P,sc.names.lookup x=some .local∨sc.names.lookup x=some .cell)∧∀y∈sc.names,y.2≠.free:=by decide +kernel)(h1:sc.kind = .function:=by rfl)(h2:sc.isCoroutine=false:=by rfl)(h3:sc.isGenerator=false:=by rfl)(h4:N.take P.length=P:=by rfl):FnScope N P sc:=
 ⟨h1,h2,h3,h.1,h4,h.2.1,h.2.2⟩
end
def exR(f:DE)(F:DS->Option XO):DS->Option XO:=fun δ=>(f δ).bind fun _=>F δ
section
variable{X:Cx}{a b e:Expr}{f:DE}{F:DS->Option XO}{RX:XR}{pos:Pos}{tb:TE}
theorem y4h{σ:St}{H:Hp}{Q:VK}(h:tEx X.K RX (exR f F) σ H Q){R:VK}(k:∀v H',tEx X.K RX F σ H' Q->R v H'):tD X.K f σ H R:=by
 obtain⟨δ,c,S,q,kk⟩:=h
 unfold exR at q
 cases e1:f δ with
 |none=>rw[e1]at q;cases q
 |some d=>
  rw[e1,av]at q
  exact⟨noB,δ,d,.no,S,e1,fun v H1 s1 _=>k v H1 ⟨δ,c,S.mono s1,q,fun H' s'=>kk H' (s1.trans s')⟩⟩
theorem pe_exL(ha:PE X a (tEx X.K RX F))(hb:PE X b tb):PE X (.BinOp a .Add b pos) (tEx X.K RX F):=(y5G y8N ha hb).imp fun σ H Q h=>h
theorem pe_exR(ha:PD X a f)(hb:PE X b (tEx X.K RX F)):PE X (.BinOp a .Add b pos) (tEx X.K RX (exR f F)):=(y5G y8N ha hb).imp fun σ H Q h=>y4h h fun v H' h'=>h'
theorem pe_exLs(he:PE X e (tEx X.K RX F))(hs:starEach [e] X.env=(false,eval e X.env)::starEach [] X.env:=by rfl):PE X (.List [e] pos) (tEx X.K RX F):=(y3D (z0S he pa_nil hs)).imp fun σ H Q h=>h
theorem pe_exT{x1}(ha:PD X a f)(he:PE X e (tEx X.K RX F))(hs:starEach [e] X.env=(false,eval e X.env)::starEach [] X.env:=by rfl)(hs2:starEach [a,e] X.env=(false,eval a X.env)::starEach [e] X.env:=by rfl):PE X (.Tuple [a,e] x1 pos) (tEx X.K RX (exR f F)):=
 (x2k (z0S ha (z0S he pa_nil hs) hs2)).imp fun σ H Q h=>y4h h fun v H' h'=>h'
end
end L2
namespace L2
open PySem
theorem y9k{np nl:Nat}{g:SS->Option Out}{ds:List D}{d:D}(hl:ds.length=np)(e:g (ds.map (fun d=>some (.sh d))++am nl none)=some (.rt d)):z1y np nl g ds=some d:=by
 unfold z1y
 rw[if_pos hl,e]
theorem z1X{n:Nat}(h:n≤1000000):n≤sizeLine:=by rw[PySem.sizeLine_eq];omega
def bD(b:Bool):D:=.bl b
def z5a(r:List Bool):D:=.lst (r.map bD)
def z0F(T:List (List Bool)):D:=.lst (T.map z5a)
theorem y7G{ds:List D}{k:Nat}{d:D}(h:ds[k]? = some d):ixD (.lst ds) (.int (k:Int))=some d:=z1M h
theorem z6P:∀bs:List Bool,z5X (bs.map bD)=some bs
 |[]=>rfl
 |b::bs=>by
  show(z5X (bs.map bD)).map (b :: ·)=_
  rw[z6P bs]
  rfl
theorem z2Y:∀r:List Bool,z2T (r.map bD)=true
 |[]=>rfl
 |b::r=>by
  show(true&&z2T (r.map bD))=true
  rw[z2Y r]
  rfl
theorem row_ix{r:List Bool}{k:Nat}(h:k<r.length):ixD (z5a r) (.int (k:Int))=some (.bl r[k]):=y7G (by rw[aB,ac h];rfl)
theorem tab_ix{T:List (List Bool)}{k:Nat}(h:k<T.length):ixD (z0F T) (.int (k:Int))=some (z5a T[k]):=y7G (by rw[aB,ac h];rfl)
theorem ixN_nat{n k:Nat}(h:k<n):ixN n (k:Int)=some k:=by
 unfold ixN
 rw[if_pos (by omega),if_pos (by omega)]
 simp
def Sq(n:Nat)(T:List (List Bool)):Prop:=T.length=n∧∀r∈T,r.length=n
theorem Sq.row{n:Nat}{T:List (List Bool)}(h:Sq n T){k:Nat}(hk:k<T.length):T[k].length=n:=h.2 _ (bL hk)
def hol{α:Type}(x:Option α)(Q:α->Prop):Prop:=∃a,x=some a∧Q a
section
variable{α:Type}{Q:α->Prop}
theorem z0c{a:α}:hol (some a) Q=Q a:=propext ⟨fun⟨_,e,q⟩=>by cases e;exact q,fun q=>⟨a,rfl,q⟩⟩
theorem hol_is{x:Option α}{a:α}:hol x (fun b=>b=a)↔x=some a:=⟨fun⟨_,e,q⟩=>q ▸ e,fun e=>⟨a,e,rfl⟩⟩
end
def asB:D->Option Bool
 |.bl b=>some b
 |_=>none
section
variable{Q:D->Prop}{QO:Out->Prop}{δ:DS}{s:SS}{h:DE}
theorem ho_var0{x:Option D}{r:DS}:z0d 0 (x::r)=x:=by cases x <;> rfl
def owA(i:Nat)(s:SS):Option D:=match s[i]? with
 |some (some (.ow d))=>some d
 |_=>none
theorem z0p{np nl:Nat}{b:SS->Option Out}{ds:List D}{d:D}(hl:ds.length=np)(h:hol (b (ds.map (fun d=>some (.sh d))++am nl none)) fun o=>o = .rt d):z1y np nl b ds=some d:=y9k hl (hol_is.mp h)
theorem z9V{np nl:Nat}{b:SS->Option Out}{ds:List D}(hl:ds.length=np)(h:hol (b (ds.map (fun d=>some (.sh d))++am nl none)) fun o=>∃d,o = .rt d∧Q d):hol (z1y np nl b ds) Q:=by
 obtain⟨o,e,d,rfl,q⟩:=h
 exact⟨d,y9k hl e,q⟩
theorem y9D{i:Nat}{b:SS->Option Out}{ds:List D}{s:SS}(I:Nat->SS->Prop)(h0:I 0 s)(hs:∀n (h:n<ds.length) δ,I n δ->hol (b (δ.set i (some (.sh ds[n])))) fun o=>match o with | .nx δ'=>I (n+1) δ' | .ct δ'=>I (n+1) δ' | .bk δ'=>QO (.nx δ') | .rt d=>QO (.rt d) | .rb d δ'=>QO (.rb d δ') | .ex c δ'=>QO (.ex c δ'))(he:∀δ,I ds.length δ->QO (.nx δ)):hol (z8X i b ds s) QO:=by
 induction ds generalizing s I with
 |nil=>exact⟨_,rfl,he _ h0⟩
 |cons x r ih=>
  obtain⟨o,e,q⟩:=hs 0 (by simp) s h0
  have e:b (s.set i (some (.sh x)))=some o:=e
  have step:∀s1,I 1 s1->hol (z8X i b r s1) QO:=fun s1 h1=>ih (fun n=>I (n+1)) h1 (fun n hn δ hI=>by
   have:=hs (n+1) (by simpa using hn) δ hI
   simpa using this) fun δ hI=>he δ (by simpa using hI)
  unfold z8X
  rw[e]
  cases o with
  |nx s1=>exact step s1 q
  |ct s1=>exact step s1 q
  |bk s1=>exact⟨_,rfl,q⟩
  |rt d=>exact⟨_,rfl,q⟩
  |rb d s1=>exact⟨_,rfl,q⟩
  |ex c s1=>exact⟨_,rfl,q⟩
theorem z9E{i:Nat}{b:SS->Option Out}{lo:Int}{m:Nat}{s:SS}(I:Nat->SS->Prop)(h0:I 0 s)(hs:∀n,n<m->∀δ,I n δ->hol (b (δ.set i (some (.sh (.int (lo+(n:Int))))))) fun o=>match o with | .nx δ'=>I (n+1) δ' | .ct δ'=>I (n+1) δ' | .bk δ'=>QO (.nx δ') | .rt d=>QO (.rt d) | .rb d δ'=>QO (.rb d δ') | .ex c δ'=>QO (.ex c δ'))(he:∀δ,I m δ->QO (.nx δ)):hol (z8X i b (z2h lo m) s) QO:=by
 refine y9D I h0 (fun n hn δ hI=>?_) fun δ hI=>he δ (by simpa[z2h] using hI)
 have hn':n<m:=by simpa[z2h] using hn
 have:=hs n hn' δ hI
 simpa[z2h] using this
theorem z3i{α:Type}{enc:α->D}{i:Nat}{b:SS->Option Out}{xs:List α}{s:SS}(I:List α->SS->Prop)(h0:I [] s)(hs:∀pre x post,xs=pre++x::post->∀δ,I pre δ->hol (b (δ.set i (some (.sh (enc x))))) fun o=>match o with | .nx δ'=>I (pre++[x]) δ' | .ct δ'=>I (pre++[x]) δ' | .bk δ'=>QO (.nx δ') | .rt d=>QO (.rt d) | .rb d δ'=>QO (.rb d δ') | .ex c δ'=>QO (.ex c δ'))(he:∀δ,I xs δ->QO (.nx δ)):hol (z8X i b (xs.map enc) s) QO:=by
 refine y9D (fun n δ=>I (xs.take n) δ) (by simpa using h0) (fun n hn δ hI=>?_) fun δ hI=>he δ (by simpa using hI)
 have hn':n<xs.length:=by simpa using hn
 have e:xs=xs.take n++xs[n]::xs.drop (n+1):=by
  rw[←aM hn',bS]
 have:=hs (xs.take n) xs[n] _ e δ hI
 rw[←List.take_succ_eq_append_getElem hn']at this
 rw[bY]
 exact this
end
def o2(F:D->D->Option D):Option D->Option D->Option D
 |some x,some y=>F x y
 |_,_=>none
def andO:Option D->Option D->Option D
 |some (.bl true),y=>y
 |some (.bl false),_=>some (.bl false)
 |_,_=>none
def andT:Option Bool->Option Bool->Option Bool
 |some true,y=>y
 |some false,_=>some false
 |_,_=>none
def orT:Option Bool->Option Bool->Option Bool
 |some true,_=>some true
 |some false,y=>y
 |_,_=>none
def iteO{α:Type}:Option Bool->Option α->Option α->Option α
 |some true,x,_=>x
 |some false,_,y=>y
 |_,_,_=>none
def consA:Option D->Option (List D)->Option (List D)
 |some x,some xs=>some (x::xs)
 |_,_=>none
def y5R:Option D->Option D
 |some d=>if d.imm=true then some d else none
 |none=>none
def z6L:Option (List D)->Option (List D)
 |some ds=>if z2T ds=true then some ds else none
 |none=>none
def y5J(x:Option Out)(b:SS->Option Out):Option Out:=match x with
 |some (.nx s)=>b s
 |o=>o
def x0R:Option D->Option (List D)
 |some (.int j)=>if -(2 ^ 62)≤j∧j<2 ^ 62 then some (z2h 0 j.toNat)else none
 |_=>none
def rng2:Option D->Option D->Option (List D)
 |some (.int i),some (.int j)=>if -(2 ^ 62)≤i∧i<2 ^ 62∧-(2 ^ 62)≤j∧j<2 ^ 62 then some (z2h i (j - i).toNat)else none
 |_,_=>none
def cut3(x:Option D)(lo hi:Option (Option Int)):Option (List D):=match x,lo,hi with
 |some (.lst ds),some l,some h=>some (z4W ds l h)
 |some (.scr ns),some l,some h=>some (z4W (ns.map .int) l h)
 |_,_,_=>none
def partO:Option D->Option (Option Int)
 |some (.int i)=>some (some i)
 |_=>none
def setO(mk:D->SD)(i:Nat)(x:Option D)(s:SS):Option Out:=match x with
 |some d=>some (.nx (s.set i (some (mk d))))
 |none=>none
def rtO:Option D->Option Out
 |some d=>some (.rt d)
 |none=>none
def forX(i:Nat)(ds:Option (List D))(b:SS->Option Out)(s:SS):Option Out:=match ds with
 |some ds=>z8X i b ds s
 |none=>none
def y3x(i:Nat)(x:Option D)(s:SS):Option Out:=match x with
 |some d=>some (.nx ((z0y i s).set i (some (.ow d))))
 |none=>none
def z1J(fc:DS->Option Bool)(fe:DE)(δ:DS):D->Option (Option D):=fun x=>(fc (δ++[some x])).bind fun k=>if k=true then(fe (δ++[some x])).map some else some none
def z2c(xs:Option (List D))(h:D->Option (Option D)):Option (List D):=match xs with
 |some xs=>if xs.length≤sizeLine then z0Z h xs else none
 |none=>none
section
variable{f g h:DE}{δ:DS}{s:SS}{F:D->D->Option D}{c e:DS->Option Bool}{a b:SS->Option Out}{i:Nat}
theorem y5V{x:Option D}{r:DS}:z0d 0 (x::r)=x:=ho_var0
theorem y9J{x:Option D}{r:DS}:z0d (i+1) (x::r)=z0d i r:=(rfl)
theorem ev_C{d:D}:dC d δ=some d:=(rfl)
theorem ev_d2:d2 F f g δ=o2 F (f δ) (g δ):=by
 unfold d2 o2
 cases f δ <;> cases g δ <;> rfl
theorem ev_d1{G:D->Option D}:d1 G f δ=(f δ).bind G:=(rfl)
theorem y6U:z0Q f δ=(f δ).bind asB:=by
 unfold z0Q
 cases f δ with
 |none=>rfl
 |some d=>cases d <;> rfl
theorem y3J:z0u f δ=(f δ).bind z7u:=(rfl)
theorem y8Z:z6u c e δ=andT (c δ) (e δ):=by
 unfold z6u
 rcases c δ with _ | _ | _ <;> rfl
theorem x2j:dOrT c e δ=orT (c δ) (e δ):=by
 unfold dOrT
 rcases c δ with _ | _ | _ <;> rfl
theorem y7R:z4h c δ=(c δ).map (!·):=(rfl)
theorem x2n:x0g f g δ=andO (f δ) (g δ):=by
 unfold x0g andO
 rcases f δ with _ | (_ | (_ | _) | _ | _ | _ | _ | _ | _) <;> rfl
theorem ev_if:dIf c f g δ=iteO (c δ) (f δ) (g δ):=by
 unfold dIf
 rcases c δ with _ | _ | _ <;> rfl
theorem y3u:z0m [] δ=some []:=(rfl)
theorem y3W{r:List DE}:z0m (f::r) δ=consA (f δ) (z0m r δ):=by
 show((f δ).bind fun x=>(z0m r δ).bind fun xs=>some (x::xs))=_
 cases f δ <;> cases z0m r δ <;> rfl
theorem y8t{M:List D->Option D}{fl:List DE}:z0k M fl δ=(z0m fl δ).bind M:=(rfl)
theorem y4A{M:List D->Option (List D)}{fl:List DE}:y1E M fl δ=(z0m fl δ).bind M:=(rfl)
theorem x3u{f:DS->Option (List D)}:mkL f δ=(f δ).map .lst:=(rfl)
theorem x3E{f:DS->Option (List D)}:mkT f δ=(f δ).map .tup:=(rfl)
theorem y0T{f:DS->Option (List D)}:z0B f δ=(z6L (f δ)).map .lst:=by
 unfold z0B z6L
 cases f δ with
 |none=>rfl
 |some ds=>
  show(if z2T ds=true then _ else _)=Option.map _ (if z2T ds=true then _ else _)
  split <;> rfl
theorem ev_is{T:String}:dIs T f δ=(f δ).map fun d=>.bl (isF T d):=(rfl)
theorem x2B:z5W f δ=(f δ).bind y5L:=(rfl)
theorem y8L:z1L f δ=x0R (f δ):=(rfl)
theorem y9v:x0T f g δ=rng2 (f δ) (g δ):=(rfl)
theorem y6j{fi:DS->Option (List D)}:z0X fi c f δ=z2c (fi δ) (z1J c f δ):=by
 unfold z0X z2c
 cases fi δ <;> rfl
theorem y8M:z7l f δ=partO (f δ):=(rfl)
theorem y0W:z3E δ=some none:=(rfl)
theorem x2Y{fl fh:DS->Option (Option Int)}:x1B f fl fh δ=cut3 (f δ) (fl δ) (fh δ):=by
 unfold x1B cut3
 rcases f δ with _ | (_ | _ | _ | _ | _ | _ | _ | _) <;> first | rfl | (cases fl δ <;> cases fh δ <;> rfl)
theorem y7l:z0V a b s=y5J (a s) b:=by
 unfold z0V y5J
 rcases a s with _ | (_ | _ | _ | _) <;> rfl
theorem y7N:z1T s=some (.nx s):=(rfl)
theorem y8l:y1Q i f s=setO .sh i (f (shV s)) s:=by
 unfold y1Q setO
 cases f (shV s) <;> rfl
theorem y9h:z5Z i f s=setO .sh i (y5R (f (z0A s))) s:=by
 unfold z5Z setO y5R
 cases f (z0A s)with
 |none=>rfl
 |some d=>
  show(if d.imm=true then _ else _)=(match (if d.imm=true then some d else none)with | some d=>some (Out.nx (s.set i (some (SD.sh d)))) | none=>none)
  split <;> rfl
theorem y9U:y1B i f s=setO .ow i (f (z0A s)) s:=by
 unfold y1B setO
 cases f (z0A s) <;> rfl
theorem y6b:z3m f s=rtO (y5R (f (z0A s))):=by
 unfold z3m rtO y5R
 cases f (z0A s)with
 |none=>rfl
 |some d=>
  show(if d.imm=true then _ else _)=(match (if d.imm=true then some d else none)with | some d=>some (Out.rt d) | none=>none)
  split <;> rfl
theorem y7u:z7z f s=rtO (f (z0A s)):=by
 unfold z7z rtO
 cases f (z0A s) <;> rfl
theorem y7X:retS f s=rtO (f (shV s)):=by
 unfold retS rtO
 cases f (shV s) <;> rfl
theorem y7H:x0O i s=rtO (owA i s):=by
 unfold x0O rtO owA
 rcases s[i]? with _ | _ | ⟨x | x | ⟨r,x⟩⟩ <;> rfl
theorem x2S:ifO c a b s=iteO (c (z0A s)) (a s) (b s):=by
 unfold ifO
 rcases c (z0A s)with _ | _ | _ <;> rfl
theorem x0d{fi:DS->Option (List D)}:y0a i fi b s=forX i (fi (shV s)) b s:=by
 unfold y0a forX
 cases fi (shV s) <;> rfl
theorem x3q:frzO i b s=b (x1k i s):=(rfl)
theorem eo_2{x y:D}:o2 F (some x) (some y)=F x y:=(rfl)
theorem x2R{x y:Bool}:andO (some (.bl x)) (some (.bl y))=some (.bl (x&&y)):=by cases x <;> rfl
theorem y9w{y:Option D}:andO (some (.bl false)) y=some (.bl false):=(rfl)
theorem y6M{x y:Bool}:andT (some x) (some y)=some (x&&y):=by cases x <;> rfl
theorem y4B{y:Option Bool}:andT (some false) y=some false:=(rfl)
theorem x2G{x y:Bool}:orT (some x) (some y)=some (x||y):=by cases x <;> rfl
theorem y6g{y:Option Bool}:orT (some true) y=some true:=(rfl)
theorem y6v{α:Type}{x y:Option α}:iteO (some true) x y=x:=(rfl)
theorem y8d{α:Type}{x y:Option α}:iteO (some false) x y=y:=(rfl)
theorem y6n{x:D}{xs:List D}:consA (some x) (some xs)=some (x::xs):=(rfl)
theorem eo_nx:y5J (some (.nx s)) b=b s:=(rfl)
theorem eo_rt{d:D}:y5J (some (.rt d)) b=some (.rt d):=(rfl)
theorem x2U{mk:D->SD}{d:D}:setO mk i (some d) s=some (.nx (s.set i (some (mk d)))):=(rfl)
theorem x3g{d:D}:rtO (some d)=some (.rt d):=(rfl)
theorem x2w{ds:List D}:forX i (some ds) b s=z8X i b ds s:=(rfl)
theorem y6L{n:Int}:y5R (some (.int n))=some (.int n):=(rfl)
theorem y9t{n:Bool}:y5R (some (.bl n))=some (.bl n):=(rfl)
theorem y3C{d:D}(h:d.imm=true):y5R (some d)=some d:=if_pos h
theorem z1R{ds:List D}(h:z2T ds=true):z6L (some ds)=some ds:=if_pos h
theorem y6r{n:Int}:partO (some (.int n))=some (some n):=(rfl)
theorem y5W{ns:List Int}{l h:Option Int}:cut3 (some (.scr ns)) (some l) (some h)=some (z4W (ns.map .int) l h):=(rfl)
theorem z6X{n:Int}(h:-(2 ^ 62)≤n∧n<2 ^ 62):x0R (some (.int n))=some (z2h 0 n.toNat):=if_pos h
theorem eo_rng2{m n:Int}(h:-(2 ^ 62)≤m∧m<2 ^ 62∧-(2 ^ 62)≤n∧n<2 ^ 62):rng2 (some (.int m)) (some (.int n))=some (z2h m (n - m).toNat):=if_pos h
theorem z2e{xs:List D}{k:D->Option (Option D)}(h:xs.length≤1000000):z2c (some xs) k=z0Z k xs:=if_pos (z1X h)
section
variable{m n:Int}{p:Bool}{ds:List D}{ns:List Int}
theorem y4F:y3L (.int m) (.int n)=some (.int (m+n)):=(rfl)
theorem y6k:x2z (.int m) (.int n)=some (.int (m - n)):=(rfl)
theorem y7L(h:CMul m n):x2O (.int m) (.int n)=some (.int (m*n)):=if_pos h
theorem y0H(h:CDiv m n):y5P (.int m) (.int n)=some (.int (m / n)):=if_pos h
theorem z2D(h:0<n):z4y (.int m) (.int n)=some (.int (m % n)):=if_pos h
theorem ea_pow(h:CPow m n):x1w (.int m) (.int n)=some (.int (m ^ n.toNat)):=if_pos h
theorem ea_lt:ltI (.int m) (.int n)=some (.bl (decide (m<n))):=(rfl)
theorem ea_le:leI (.int m) (.int n)=some (.bl (decide (m≤n))):=(rfl)
theorem x0p:gtI (.int m) (.int n)=some (.bl (decide (n<m))):=(rfl)
theorem y6R:eqD (.int m) (.int n)=some (.bl (decide (m=n))):=(rfl)
theorem x3x:neD (.int m) (.int n)=some (.bl (!decide (m=n))):=(rfl)
theorem x3j:x3f (.int m)=some (.int (-m)):=(rfl)
theorem x2h:uNot (.bl p)=some (.bl (!p)):=(rfl)
theorem y9F:z7u (.bl p)=some p:=(rfl)
theorem y7e:y5L (.lst ds)=some ds:=(rfl)
theorem z9p:z2g [.lst ds]=some (.int (ds.length:Int)):=(rfl)
theorem x2s:ixD (.lst ds) (.int m)=atI ds m:=(rfl)
theorem x2m:ixD (.tup ds) (.int m)=atI ds m:=(rfl)
theorem x2l:ixD (.scr ns) (.int m)=(atI ns m).map .int:=(rfl)
theorem y6c:isF "bool" (.int m)=false:=(rfl)
theorem y8J:isF "int" (.int m)=true:=(rfl)
theorem x2o:asB (.bl p)=some p:=(rfl)
end
theorem eb_bs{α β:Type}{a:α}{k:α->Option β}:(some a).bind k=k a:=(rfl)
theorem eb_ms{α β:Type}{a:α}{k:α->β}:(some a).map k=some (k a):=(rfl)
theorem eb_mn{α β:Type}{k:α->β}:(none:Option α).map k=none:=(rfl)
theorem eb_s0{α:Type}{x y:α}{r:List α}:(x::r).set 0 y=y::r:=(rfl)
theorem eb_sS{α:Type}{n:Nat}{x y:α}{r:List α}:(x::r).set (n+1) y=x::r.set n y:=(rfl)
theorem eb_mc{α β:Type}{x:α}{r:List α}{k:α->β}:(x::r).map k=k x::r.map k:=(rfl)
theorem y7C{α β:Type}{k:α->β}:([]:List α).map k=[]:=(rfl)
theorem eb_rS{α:Type}{n:Nat}{x:α}:am (n+1) x=x::am n x:=(rfl)
theorem eb_r0{α:Type}{x:α}:am 0 x=[]:=(rfl)
theorem eb_ca{α:Type}{x:α}{r t:List α}:(x::r)++t=x::(r++t):=(rfl)
theorem eb_na{α:Type}{t:List α}:[]++t=t:=(rfl)
theorem y8k:z0A []=[]:=(rfl)
theorem y7s{x:Option SD}{r:SS}:z0A (x::r)=x.map SD.val::z0A r:=(rfl)
theorem x3a:shV []=[]:=(rfl)
theorem x2x{x:Option SD}{r:SS}:shV (x::r)=shO x::shV r:=(rfl)
theorem x2T{d:D}:shO (some (.sh d))=some d:=(rfl)
theorem y3p:z0y i []=[]:=(rfl)
theorem y3U{x:Option SD}{r:SS}:z0y i (x::r)=y4Z i x::z0y i r:=(rfl)
theorem y1d{d:D}:y4Z i (some (.sh d))=some (.sh d):=(rfl)
theorem y0V{d:D}:y4Z i (some (.ow d))=some (.ow d):=(rfl)
theorem x2r{d:D}{r:SS}:owA 0 (some (.ow d)::r)=some d:=(rfl)
theorem x2q{x:Option SD}{r:SS}:owA (i+1) (x::r)=owA i r:=(rfl)
end
def x1M:Option (List D)->Option (List D):=z6L
def st0V(o k v:Option D):Option D:=match o,k,v with
 |some (.lst ds),some (.int k),some d=>(ixN ds.length k).map fun j=>.lst (ds.set j d)
 |_,_,_=>none
def m0V(M:List D->List D->Option (List D))(o:Option D)(args:Option (List D)):Option D:=match o,args with
 |some (.lst ds),some args=>(M ds args).map .lst
 |_,_=>none
section
variable{fk fv:DE}{s:SS}{i:Nat}{M:List D->List D->Option (List D)}{fl:List DE}
theorem x3b{d:D}:y3x i (some d) s=some (.nx ((z0y i s).set i (some (.ow d)))):=(rfl)
theorem y4b{ds:List D}(h:z2T ds=true):x1M (some ds)=some ds:=if_pos h
def kI:D->Option Int
 |.int k=>some k
 |_=>none
def kL:D->Option (List D)
 |.lst ds=>some ds
 |_=>none
def kW:Option (Option SD)->Option D
 |some (some (.ow d))=>some d
 |_=>none
theorem owA_kW:owA i s=kW s[i]?:=by
 unfold owA kW
 generalize s[i]? = x
 rcases x with _ | _ | ⟨x | x | ⟨r,x⟩⟩ <;> rfl
theorem mt2{β:Type}{k:D}{x:Option (Option SD)}{F:Int->List D->Option β}:(match k,x with | .int k,some (some (.ow (.lst ds)))=>F k ds | _,_=>none)=(kI k).bind fun k=>((kW x).bind kL).bind fun ds=>F k ds:=by
 cases k with
 |int k=>rcases x with _ | _ | ⟨x | x | ⟨r,x⟩⟩ <;> first | rfl | (cases x <;> rfl)
 |_=>rfl
theorem st0V_k{o k v:Option D}:st0V o k v=(o.bind kL).bind fun ds=>(k.bind kI).bind fun k=>v.bind fun d=>(ixN ds.length k).map fun j=>.lst (ds.set j d):=by
 rcases o with _ | o
 ·rfl
 ·cases o with
  |lst ds=>
   rcases k with _ | k
   ·rfl
   ·cases k with
    |int k=>cases v <;> rfl
    |_=>rfl
  |_=>rfl
theorem putO_b{α:Type}{x:Option α}{F:α->Option D}:y3x i (x.bind F) s=x.bind fun a=>y3x i (F a) s:=by cases x <;> rfl
theorem z9g{α β:Type}{x:Option α}:(x.bind fun _=>(none:Option β))=none:=by cases x <;> rfl
theorem x3F:st0 i fk fv s=y3x i (st0V (owA i s) (fk (z0A s)) (y5R (fv (z0A s)))) s:=by
 have e:st0 i fk fv s=(fv (z0A s)).bind fun d=>if d.imm=true then(fk (z0A s)).bind fun dk=>(kI dk).bind fun k=>((kW s[i]?).bind kL).bind fun ds=>(ixN ds.length k).map fun j=>.nx ((z0y i s).set i (some (.ow (.lst (ds.set j d)))))else none:=by
  refine congrArg (Option.bind (fv (z0A s))) (funext fun d=>?_)
  refine congrArg (fun z=>if d.imm=true then z else none) ?_
  refine congrArg (Option.bind (fk (z0A s))) (funext fun dk=>?_)
  exact mt2 (F:=fun k ds=>(ixN ds.length k).map fun j=>Out.nx ((z0y i s).set i (some (.ow (.lst (ds.set j d))))))
 rw[e,st0V_k,owA_kW]
 simp only[putO_b]
 generalize (kW s[i]?).bind kL=x
 rcases fv (z0A s)with _ | d
 ·show none=x.bind fun ds=>((fk (z0A s)).bind kI).bind fun k=>(none:Option Out)
  simp only[z9g]
 ·show(if d.imm=true then(fk (z0A s)).bind fun dk=>_ else none)=x.bind fun ds=>((fk (z0A s)).bind kI).bind fun k=>(if d.imm=true then some d else none).bind fun d=>_
  split
  ·rcases fk (z0A s)with _ | k
   ·simp only[dc,z9g]
   ·simp only[av]
    cases kI k with
    |none=>simp only[dc,z9g]
    |some k=>
     simp only[av]
     cases x with
     |none=>rfl
     |some ds=>
      simp only[av]
      cases ixN ds.length k <;> rfl
  ·simp only[dc,z9g]
theorem ev_m0:m0 i M fl s=y3x i (m0V M (owA i s) (x1M (z0m fl (z0A s)))) s:=by
 unfold m0 owA
 rcases z0m fl (z0A s)with _ | args
 ·rcases s[i]? with _ | _ | ⟨x | x | ⟨r,x⟩⟩ <;> (first | rfl | (cases x <;> rfl))
 ·show(if z2T args=true then _ else _)=y3x i (m0V M _ (if z2T args=true then some args else none)) s
  split
  ·rcases s[i]? with _ | _ | ⟨x | x | ⟨r,x⟩⟩ <;> (first | rfl | (cases x <;> first | rfl | (rename_i ds;show Option.map _ (M ds args)=y3x i (Option.map _ (M ds args)) s;cases M ds args <;> rfl)))
  ·rcases s[i]? with _ | _ | ⟨x | x | ⟨r,x⟩⟩ <;> (first | rfl | (cases x <;> rfl))
end
theorem es_v1{d:D}:(SD.sh d).val=d:=(rfl)
theorem es_v2{d:D}:(SD.ow d).val=d:=(rfl)
theorem y7M{bs:List Bool}:allF [.lst (bs.map bD)]=some (.bl (bs.all fun b=>b)):=by
 show(z5X (bs.map bD)).map (fun bs=>D.bl (bs.all fun b=>b))=_
 rw[z6P]
 rfl
theorem ea_any{bs:List Bool}:anyF [.lst (bs.map bD)]=some (.bl (bs.any fun b=>b)):=by
 show(z5X (bs.map bD)).map (fun bs=>D.bl (bs.any fun b=>b))=_
 rw[z6P]
 rfl
theorem z4z:∀ns:List Int,z2w (ns.map D.int)=some ns
 |[]=>rfl
 |n::ns=>by
  show(z2w (ns.map D.int)).map (n :: ·)=_
  rw[z4z ns]
  rfl
theorem x2i{ns:List Int}:sumF [.lst (ns.map .int)]=some (.int ns.sum):=by
 show(z2w (ns.map D.int)).map (fun ns=>D.int ns.sum)=_
 rw[z4z]
 rfl
theorem z4B{α β:Type}{f:α->β}:∀{xs:List α} {i:Nat},(xs.map f).eraseIdx i=(xs.eraseIdx i).map f
 |[],_=>rfl
 |_::_,0=>rfl
 |x::r,i+1=>congrArg (f x :: ·) (z4B (xs:=r) (i:=i))
theorem x1X(ns:List Int)(lo hi:Option Int):∃cs:List Int,z4W (ns.map .int) lo hi=cs.map .int∧cs.length≤ns.length:=by
 refine⟨(ns.drop (HT.sIx ns.length 0 lo)).take (HT.sIx ns.length ns.length hi - HT.sIx ns.length 0 lo),?_,by simp;omega⟩
 unfold z4W
 rw[ah,c4,c5]
theorem y2M(n:Nat)(h:n≤1000):x1w (.int 10) (.int (n:Int))=some (.int (10 ^ n)):=by
 rw[ea_pow (show CPow 10 (n:Int) from⟨by omega,by omega,by decide⟩),ck]
theorem z1Z{T:List (List Bool)}:z2g [z0F T]=some (.int (T.length:Int)):=by
 show some (D.int ((T.map z5a).length:Nat))=_
 rw[ah]
theorem ix_tab{T:List (List Bool)}{k:Nat}(h:k<T.length):ixD (z0F T) (.int (k:Int))=some (z5a T[k]):=tab_ix h
theorem ix_row{r:List Bool}{k:Nat}(h:k<r.length):ixD (z5a r) (.int (k:Int))=some (.bl r[k]):=row_ix h
theorem z8M{x:Int}{n:Nat}(h:0<n):∃a:Nat,x % (n:Int)=(a:Int)∧a<n:=by
 have h1:=cW x (show(n:Int)≠0 by omega)
 have h2:=c9 x (show(0:Int)<n by omega)
 exact⟨(x % (n:Int)).toNat,by omega,by omega⟩
theorem z7s{α:Type}{enc:α->D}{c:DS->Option Bool}{f:DE}{δ:DS}(p:α->Bool)(g:α->D):∀{xs:List α},(∀x∈xs,c (δ++[some (enc x)])=some (p x))->(∀x∈xs,p x=true->f (δ++[some (enc x)])=some (g x))->z0Z (z1J c f δ) (xs.map enc)=some ((xs.filter p).map g)
 |[],_,_=>rfl
 |x::r,hc,hf=>by
  have ih:=z7s (xs:=r) p g (fun y hy=>hc y (ae _ hy)) fun y hy=>hf y (ae _ hy)
  rw[ay]
  unfold z0Z
  rw[ih]
  unfold z1J
  rw[hc x af]
  cases hp:p x with
  |true=>
   show((if true=true then(f (δ++[some (enc x)])).map some else some none).bind _)=_
   rw[if_pos rfl,hf x af hp,cc hp]
   rfl
  |false=>
   rw[ce (by rw[hp];exact ak)]
   rfl
theorem z1C{α:Type}{enc:α->D}{f:DE}{δ:DS}(g:α->D){xs:List α}(hf:∀x∈xs,f (δ++[some (enc x)])=some (g x)):z0Z (z1J z4C f δ) (xs.map enc)=some (xs.map g):=by
 rw[z7s (fun _=>true) g (fun _ _=>rfl) fun x hx _=>hf x hx,bq.mpr fun _ _=>rfl]
def nD(n:Nat):D:=.int (n:Int)
theorem z1p{n:Nat}:z2h 0 n=(ad n).map nD:=by
 unfold z2h nD
 refine bh fun k _=>?_
 rw[Int.zero_add]
theorem ixN_of{n k:Nat}(h:k<n):ixN n (k:Int)=some k:=ixN_nat h
def y0u:Option (List D)->Option (List D)
 |some ds=>if ds.length≤sizeLine then some ds else none
 |none=>none
theorem y4M{g:DS->Option (List D)}{δ:DS}:z4J g δ=y0u (g δ):=by
 unfold z4J y0u
 cases g δ <;> rfl
theorem y3F{ds:List D}(h:ds.length≤1000000):y0u (some ds)=some ds:=if_pos (z1X h)
theorem y6p{α:Type}{xs:List α}{x:α}:atI (xs++[x]) (-1)=some x:=by
 unfold atI ixN
 rw[if_neg (by omega),aC,eC,if_pos (by omega)]
 have e:(-1+((xs.length+1:Nat):Int)).toNat=xs.length:=by omega
 rw[e]
 simp
def z3g(o:List Int):D:=.tup (o.map .int)
def z1H(b:Int×List Int):D:=.tup [.int b.1,z3g b.2]
def z3Z(bs:List (Int×List Int)):D:=.lst (bs.map z1H)
theorem z2X:∀o:List Int,z2T (o.map D.int)=true
 |[]=>rfl
 |n::o=>by
  show(true&&z2T (o.map D.int))=true
  rw[z2X o]
  rfl
theorem imm_ord(o:List Int):(z3g o).imm=true:=z2X o
theorem imm_bal(b:Int×List Int):(z1H b).imm=true:=by
 show(true&&((z3g b.2).imm&&true))=true
 rw[imm_ord]
 rfl
theorem z5b:∀bs:List (Int×List Int),z2T (bs.map z1H)=true
 |[]=>rfl
 |b::bs=>by
  show((z1H b).imm&&z2T (bs.map z1H))=true
  rw[imm_bal,z5b bs]
  rfl
theorem y2t{b:Int×List Int}:ixD (z1H b) (.int 0)=some (.int b.1):=(rfl)
theorem z7p{b:Int×List Int}:ixD (z1H b) (.int 1)=some (z3g b.2):=(rfl)
theorem z9s{bs:List (Int×List Int)}:y5L (z3Z bs)=some (bs.map z1H):=(rfl)
theorem seq_ord{o:List Int}:y5L (z3g o)=some (o.map .int):=(rfl)
theorem y7Y{o:List Int}:z2g [z3g o]=some (.int (o.length:Int)):=by
 show some (D.int ((o.map D.int).length:Nat))=_
 rw[ah]
theorem y3v:∀o:List Int,PyData.canLayAll0 (y1M (o.map D.int))=true
 |[]=>rfl
 |n::o=>by
  show(true&&PyData.canLayAll0 (y1M (o.map D.int)))=true
  rw[y3v o]
  rfl
theorem y4L:∀o:List Int,PyData.depthAll (y1M (o.map D.int))=0
 |[]=>rfl
 |n::o=>by
  show max 0 (PyData.depthAll (y1M (o.map D.int)))=0
  rw[y4L o]
  rfl
theorem z0z{x:Option Out}{b:SS->Option Out}{I:SS->Prop}{Q:Out->Prop}(h:hol x fun o=>∃s,o = .nx s∧I s)(k:∀s,I s->hol (b s) Q):hol (y5J x b) Q:=by
 obtain⟨o,rfl,s,rfl,q⟩:=h
 exact k s q
theorem y3E{bs:List (Int×List Int)}{b:Int×List Int}(hl:bs.length≤1000000):m0V appF (some (z3Z bs)) (some [z1H b])=some (z3Z (bs++[b])):=by
 show Option.map _ (if(bs.map z1H).length<sizeLine then some (bs.map z1H++[z1H b])else none)=_
 rw[ah,if_pos (by rw[PySem.sizeLine_eq];omega)]
 unfold z3Z
 rw[aD]
 rfl
def z7y(m:Nat):List Int:=(ad m).map fun k=>((k:Nat):Int)
theorem y7t{m:Nat}:D.tup (z2h 0 m)=z3g (z7y m):=by
 rw[z1p]
 unfold z3g z7y
 rw[aK]
 rfl
structure Good(m:Nat)(b:Int×List Int):Prop where
 lo:1≤b.1
 hi:b.1≤10 ^ 30
 perm:b.2.Perm (z7y m)
def plc(o:List Int)(a:Int):Nat:=o.findIdx fun n=>n==a
def ahd(o:List Int)(a b:Int):Bool:=decide (plc o a<plc o b)
theorem x1x{o:List Int}{a:Int}(h:a∈o):o.findIdx? (fun n=>n==a)=some (plc o a):=by
 unfold plc
 rw[List.findIdx?_eq_some_iff_findIdx_eq]
 exact⟨de ⟨a,h,by simp⟩,rfl⟩
theorem y2J{o:List Int}{a:Int}(h:a∈o):tixF (z3g o) (.int a)=some (.int (plc o a:Int)):=by
 show(z2w (o.map D.int)).bind _=_
 rw[z4z,av,x1x h]
 rfl
theorem y0K{o:List Int}{a:Int}(h:a∈o):plc o a<o.length:=de ⟨a,h,by simp⟩
theorem z9o{o:List Int}{a:Int}(h:a∈o):o[plc o a]'(y0K h)=a:=by
 have:=List.findIdx_getElem (p:=fun n=>n==a) (xs:=o) (w:=y0K h)
 exact eq_of_beq this
theorem plc_ne{o:List Int}{a b:Int}(ha:a∈o)(hb:b∈o)(h:a≠b):plc o a≠plc o b:=fun e=>h (by
 have h1:=z9o ha
 have h2:=z9o hb
 rw[←h1,←h2]
 congr 1)
theorem y7Q{o:List Int}{a b:Int}(ha:a∈o)(hb:b∈o)(h:a≠b):ahd o b a = !ahd o a b:=by
 have:=plc_ne ha hb h
 unfold ahd
 rw[←decide_not]
 congr 1
 rw[eq_iff_iff]
 omega
def z4x(bs:List (Int×List Int))(a b:Int):Int:=(bs.map fun x=>if ahd x.2 a b=true then x.1 else -x.1).sum
def z5m(bs:List (Int×List Int)):Int:=(bs.map (·.1)).sum
theorem y7K{a b:Int}(hab:a≠b):∀bs:List (Int×List Int),(∀x∈bs,a∈x.2∧b∈x.2)->z5m (bs.filter fun x=>ahd x.2 a b) - z5m (bs.filter fun x=>ahd x.2 b a)=z4x bs a b
 |[],_=>rfl
 |x::bs,h=>by
  have ih:=y7K hab bs fun y hy=>h y (ae _ hy)
  obtain⟨ha,hb⟩:=h x af
  have hn:=y7Q ha hb hab
  unfold z5m z4x at *
  rw[ay,bF,←ih]
  cases hp:ahd x.2 a b with
  |true=>
   rw[hp]at hn
   rw[cc (by simpa using hp),ce (by rw[hn];decide)]
   simp
   omega
  |false=>
   rw[hp]at hn
   rw[ce (by rw[hp];decide),cc (by rw[hn];decide)]
   simp
   omega
theorem y9A{a b:Int}:∀bs:List (Int×List Int),z4x bs a b % 2=z5m bs % 2
 |[]=>rfl
 |x::bs=>by
  have ih:=y9A (a:=a) (b:=b) bs
  unfold z4x z5m at *
  rw[ay,ay,bF,bF]
  split <;> omega
def at2(T:List (List Bool))(i j:Nat):Bool:=(T.getD i []).getD j false
def thD(th:List Nat):D:=.lst (th.map nD)
theorem z9J{T:List (List Bool)}{i:Nat}(h:i<T.length):ixD (z0F T) (.int (i:Int))=some (z5a (T.getD i [])):=by
 rw[ix_tab h]
 simp[aZ,ac h]
theorem z9P{r:List Bool}{j:Nat}(h:j<r.length):ixD (z5a r) (.int (j:Int))=some (.bl (r.getD j false)):=by
 rw[ix_row h]
 simp[aZ,ac h]
theorem Sq.len{n:Nat}{T:List (List Bool)}(h:Sq n T){i:Nat}(hi:i<n):(T.getD i []).length=n:=by
 have h1:i<T.length:=by rw[h.1];exact hi
 have:T.getD i []=T[i]:=by simp[aZ,ac h1]
 rw[this]
 exact h.row h1
theorem ix2{n:Nat}{T:List (List Bool)}(h:Sq n T){i j:Nat}(hi:i<n)(hj:j<n):o2 ixD (ixD (z0F T) (.int (i:Int))) (some (.int (j:Int)))=some (.bl (at2 T i j)):=by
 rw[z9J (by rw[h.1];exact hi),eo_2,z9P (by rw[h.len hi];exact hj)]
 rfl
def z0J(th:List Nat)(f:Nat->Nat->Bool):List (List Bool):=th.map fun i=>th.map fun j=>f i j
theorem z9i{α β:Type}{f:α->β}{xs:List α}{i:Nat}{d:β}(h:i<xs.length):(xs.map f).getD i d=f xs[i]:=by
 simp[aZ,h]
theorem z6G{th:List Nat}{f:Nat->Nat->Bool}:Sq th.length (z0J th f):=by
 refine⟨by simp[z0J],fun r hr=>?_⟩
 obtain⟨i,_,rfl⟩:=aO.mp hr
 simp
theorem at_grid{n:Nat}{f:Nat->Nat->Bool}{i j:Nat}(hi:i<n)(hj:j<n):at2 (z0J (ad n) f) i j=f i j:=by
 unfold at2 z0J
 rw[z9i (by simpa using hi),z9i (by simpa using hj)]
 simp
theorem grid_of{n:Nat}{T:List (List Bool)}(h:Sq n T):z0J (ad n) (at2 T)=T:=by
 unfold z0J
 apply bv
 ·simp[h.1]
 ·intro i h1 h2
  have hi:i<n:=by simpa using h1
  rw[bY]
  have hrow:T[i].length=n:=h.row h2
  apply bv
  ·simp[hrow]
  ·intro j h3 h4
   have hj:j<n:=by simpa using h3
   rw[bY]
   unfold at2
   simp[aZ,ac h2,ac h4]
theorem seq_tab{T:List (List Bool)}:y5L (z0F T)=some (T.map z5a):=(rfl)
theorem z4M{th:List Nat}:y5L (thD th)=some (th.map nD):=(rfl)
theorem y0Z{th:List Nat}:z2g [thD th]=some (.int (th.length:Int)):=by
 show some (D.int ((th.map nD).length:Nat))=_
 rw[ah]
theorem y1g:∀th:List Nat,z2T (th.map nD)=true
 |[]=>rfl
 |n::th=>by
  show(true&&z2T (th.map nD))=true
  rw[y1g th]
  rfl
theorem okP_th(th:List Nat):okP (thD th)=true:=by
 have e:th.map nD=(th.map fun n=>((n:Nat):Int)).map D.int:=by rw[aK];rfl
 unfold okP thD
 rw[e,aA,decide_eq_true_eq]
 refine⟨y3v _,?_⟩
 show PyData.depthAll (y1M ((th.map fun n=>((n:Nat):Int)).map D.int))+1≤60
 rw[y4L]
 decide
theorem ne_self{d:D}(h:okP d=true):neD d d=some (.bl false):=by
 unfold neD
 rw[h]
 show(if(true&&true)=true then some (D.bl (!PyData.eqv (toP d) (toP d)))else none)=_
 rw[if_pos (show(true&&true)=true from rfl),SeqAt.eqv_refl _ (z0q h).1]
 rfl
theorem app_thV{th:List Nat}{k:Nat}(hl:th.length≤1000000):m0V appF (some (thD th)) (some [.int (k:Int)])=some (thD (th++[k])):=by
 show Option.map _ (if(th.map nD).length<sizeLine then some (th.map nD++[.int (k:Int)])else none)=_
 rw[ah,if_pos (by rw[PySem.sizeLine_eq];omega)]
 unfold thD
 rw[aD]
 rfl
theorem y4a{o:List Nat}{k:Nat}(hk:1+k≤o.length):cut3 (some (thD o)) (some none) (some (some (1+(k:Int))))=some ((o.take (1+k)).map nD):=by
 show some (z4W (o.map nD) none (some (1+(k:Int))))=_
 unfold z4W
 have e1:HT.sIx (o.map nD).length 0 none=0:=rfl
 have e2:HT.sIx (o.map nD).length (o.map nD).length (some (1+(k:Int)))=1+k:=by
  rw[ah]
  show(if(1+(k:Int))<0 then((1+(k:Int))+(o.length:Int)).toNat else min (1+(k:Int)).toNat o.length)=1+k
  rw[if_neg (by omega)]
  omega
 rw[e1,e2,dS,eu,c4]
theorem y4i{fi:DS->Option (List D)}{c:DS->Option Bool}{f:DE}{δ:DS}:z5I fi c f δ=z2c (fi δ) (two (z3D c f δ)):=by
 unfold z5I z2c
 cases fi δ <;> rfl
theorem y8s{f:DE}{δ:DS}:y5h f δ=(f δ).bind y5H:=(rfl)
def z4c(k:Nat):List Bool->List Nat
 |[]=>[]
 |b::r=>if b=true then k::z4c (k+1) r else z4c (k+1) r
theorem y8p:∀{r:List Bool} {k:Nat},z4c k r=(ca k r.length).filter fun i=>r.getD (i - k) false
 |[],_=>rfl
 |b::r,k=>by
  have ih:=y8p (r:=r) (k:=k+1)
  unfold z4c
  rw[aX,dm]
  have e:(ca (k+1) r.length).filter (fun i=>(b::r).getD (i - k) false)=(ca (k+1) r.length).filter fun i=>r.getD (i - (k+1)) false:=by
   apply bB
   intro i hi
   have:=(List.mem_range'_1.mp hi).1
   have e:i - k=(i - (k+1))+1:=by omega
   rw[e]
   rfl
  cases b with
  |true=>
   rw[cc (by simp),e,ih]
   rfl
  |false=>
   rw[ce (by simp),e,ih]
   rfl
theorem z6V:∀{ds:List D} {k:Nat},(z0r k ds).length=ds.length
 |[],_=>rfl
 |d::r,k=>by show(z0r (k+1) r).length+1=r.length+1;rw[z6V]
def chO(F G:D->D->Option D)(x y z:Option D):Option D:=match x,y with
 |some x,some y=>match F x y with
  |some (.bl true)=>z.bind fun z=>G y z
  |some (.bl false)=>some (.bl false)
  |_=>none
 |_,_=>none
theorem y3o{F G:D->D->Option D}{f g h:DE}{δ:DS}:z8k F G f g h δ=chO F G (f δ) (g δ) (h δ):=by
 unfold z8k chO
 cases f δ <;> cases g δ <;> rfl
theorem x1A{F G:D->D->Option D}{x y z:D}{b c:Bool}(h1:F x y=some (.bl b))(h2:G y z=some (.bl c)):chO F G (some x) (some y) (some z)=some (.bl (b&&c)):=by
 show(match F x y with
  |some (.bl true)=>(some z).bind fun z=>G y z
  |some (.bl false)=>some (.bl false)
  |_=>none)=_
 rw[h1]
 cases b with
 |true=>exact h2
 |false=>rfl
def inO:Option D->Option D->Option Bool
 |some x,some y=>inK x y
 |_,_=>none
theorem y6h{f g:DE}{δ:DS}:x0j f g δ=inO (f δ) (g δ):=by
 unfold x0j inO
 cases f δ <;> cases g δ <;> rfl
theorem eo_in{x y:D}:inO (some x) (some y)=inK x y:=(rfl)
theorem y6V{f g:DE}{δ:DS}:x0B f g δ=(x0j f g δ).map (!·):=(rfl)
def y7c(o k v:Option D):Option D:=match o,k,v with
 |some (.dct ks ds),some dk,some d=>(y2c dk).bind fun k=>if z2T ds=true∧ks.length<sizeLine then some (.dct (y0z ks k) (y0y ks ds k d))else none
 |_,_,_=>none
theorem jB{i:Nat}{s:SS}{dk d:D}{ks:List Key}{ds:List D}:(match y2c dk,(some (some (SD.ow (.dct ks ds))):Option (Option SD))with
   |some k,some (some (.ow (.dct ks ds)))=>if z2T ds=true∧ks.length<sizeLine then some (Out.nx ((z0y i s).set i (some (.ow (.dct (y0z ks k) (y0y ks ds k d))))))else none
   |_,_=>none)=y3x i (y7c (some (.dct ks ds)) (some dk) (some d)) s:=by
 show _=y3x i ((y2c dk).bind _) s
 cases y2c dk with
 |none=>rfl
 |some k=>
  show(if z2T ds=true∧ks.length<sizeLine then _ else _)=y3x i (if z2T ds=true∧ks.length<sizeLine then _ else _) s
  split <;> rfl
theorem y9l{i:Nat}{fk fv:DE}{s:SS}:dput i fk fv s=y3x i (y7c (owA i s) (fk (z0A s)) (y5R (fv (z0A s)))) s:=by
 unfold dput owA
 rcases fv (z0A s)with _ | d
 ·rcases fk (z0A s)with _ | dk <;> rcases s[i]? with _ | _ | ⟨x | x | ⟨r,x⟩⟩ <;> (first | rfl | (cases x <;> rfl))
 ·show(if d.imm=true then _ else _)=y3x i (y7c _ _ (if d.imm=true then some d else none)) s
  split
  ·rcases fk (z0A s)with _ | dk
   ·rcases s[i]? with _ | _ | ⟨x | x | ⟨r,x⟩⟩ <;> (first | rfl | (cases x <;> rfl))
   ·rw[av]
    rcases s[i]? with _ | _ | ⟨x | x | ⟨r,x⟩⟩
    ·cases y2c dk <;> rfl
    ·cases y2c dk <;> rfl
    ·cases y2c dk <;> rfl
    ·cases x with
     |dct ks ds=>exact jB
     |_=>(cases y2c dk <;> rfl)
    ·cases y2c dk <;> rfl
  ·rcases fk (z0A s)with _ | dk <;> rcases s[i]? with _ | _ | ⟨x | x | ⟨r,x⟩⟩ <;> (first | rfl | (cases x <;> rfl))
def x0I:Option D->Option D->Option (List D)
 |some x,some y=>catLs x y
 |_,_=>none
theorem x2D{f g:DE}{δ:DS}:x0i f g δ=x0I (f δ) (g δ):=by
 unfold x0i x0I
 cases f δ <;> cases g δ <;> rfl
theorem y3Q{ds es:List D}(h:ds.length+es.length≤1000000):x0I (some (.lst ds)) (some (.lst es))=some (ds++es):=if_pos (z1X h)
theorem y8u{d:D}{r:SS}:x1k 0 (some (.ow d)::r)=some (.sh d)::r:=(rfl)
theorem y8R{i:Nat}{x:Option SD}{r:SS}:x1k (i+1) (x::r)=x::x1k i r:=by
 unfold x1k
 rw[d4]
 rcases r[i]? with _ | _ | ⟨y | y | ⟨q,y⟩⟩ <;> rfl
def y0F(p:List Int):D:=.dct (p.map Sum.inl) (p.map fun _=>.bl true)
theorem told_in{p:List Int}{x:Int}(h:x∉p):inK (.int x) (y0F p)=some false:=by
 show some (y0J (p.map Sum.inl) (.inl x))=_
 congr 1
 unfold y0J
 rw[cE,bU]
 intro y hy z
 have:(Sum.inl y:Key)=Sum.inl x:=of_decide_eq_true z
 cases this
 exact h hy
theorem y0h:∀p:List Int,z2T (p.map fun _=>D.bl true)=true
 |[]=>rfl
 |_::p=>by
  show(true&&z2T (p.map fun _=>D.bl true))=true
  rw[y0h p]
  rfl
theorem x1s{p:List Int}{x:Int}(h:x∉p)(hl:p.length≤1000000):y7c (some (y0F p)) (some (.int x)) (some (.bl true))=some (y0F (p++[x])):=by
 show(if z2T (p.map fun _=>D.bl true)=true∧(p.map (Sum.inl:Int->Key)).length<sizeLine then _ else _)=_
 rw[if_pos ⟨y0h p,by rw[ah,PySem.sizeLine_eq];omega⟩]
 have hh:y0J (p.map Sum.inl) (.inl x)=false:=by
  have:=told_in h
  exact Option.some.inj this
 unfold y0z y0y y0F
 rw[hh,if_neg ak,if_neg ak,aD,aD]
 rfl
def y1O(m:Nat)(bs:List (Int×List Int)):List (List Bool):=z0J (ad m) fun i j=>!decide (i=j)&&decide (0<z4x bs i j)
theorem x1o{m:Nat}{x:Int}(h:x∈z7y m):0≤x∧x<(m:Int):=by
 obtain⟨k,hk,rfl⟩:=aO.mp h
 have:=ai.mp hk
 omega
theorem y4P{m:Nat}:(z7y m).Nodup:=by
 unfold z7y
 rw[dR,List.pairwise_map]
 refine List.Pairwise.imp ?_ (dR.mp List.nodup_range)
 intro a b h z
 exact h (by omega)
end L2
namespace Prg
open PySem L2
def extV(o x:Option D):Option D:=match x,o with
 |some (.lst es),some (.lst ds)=>if ds.length+es.length≤sizeLine then some (.lst (ds++es))else none
 |_,_=>none
theorem y4c{i:Nat}{f:DE}{s:SS}:y9Y i f s=y3x i (extV (owA i s) (f (z0A s))) s:=by
 unfold y9Y owA
 rcases f (z0A s)with _ | d
 ·rcases s[i]? with _ | _ | ⟨x | x | ⟨r,x⟩⟩ <;> (first | rfl | (cases x <;> rfl))
 ·rcases s[i]? with _ | _ | ⟨x | x | ⟨r,x⟩⟩ <;> cases d <;> (first | rfl | (cases x <;> first | rfl | skip))
  rename_i es ds
  show(if ds.length+es.length≤sizeLine then some _ else none)=y3x i (if ds.length+es.length≤sizeLine then some _ else none) s
  split <;> rfl
theorem eo_ext{ds es:List D}(h:ds.length+es.length≤1000000):extV (some (.lst ds)) (some (.lst es))=some (.lst (ds++es)):=if_pos (z1X h)
def sm(f:Nat->Nat):Nat->Nat
 |0=>0
 |n+1=>sm f n+f n
theorem z6A{β:Type}{f g:β->Int}:∀{L:List β},(∀x∈L,f x=g x)->(L.map f).sum=(L.map g).sum
 |[],_=>rfl
 |x::L,h=>by
  rw[ay,ay,bF,bF,h x af,z6A fun y hy=>h y (ae _ hy)]
end Prg
namespace L2
open PySem
theorem z8N{α:Type}{enc:α->D}{c:DS->Option Bool}{f:DE}{δ:DS}(p:α->Bool)(g:α->D){xs:List α}(hl:xs.length≤1000)(hc:∀x∈xs,c (δ++[some (enc x)])=some (p x))(hf:∀x∈xs,p x=true->f (δ++[some (enc x)])=some (g x)):z2c (some (xs.map enc)) (z1J c f δ)=some ((xs.filter p).map g):=by
 rw[z2e (by rw[ah];omega)]
 exact z7s p g hc hf
theorem z5M{α:Type}{enc:α->D}{f:DE}{δ:DS}(g:α->D){xs:List α}(hl:xs.length≤1000)(hf:∀x∈xs,f (δ++[some (enc x)])=some (g x)):z2c (some (xs.map enc)) (z1J z4C f δ)=some (xs.map g):=by
 rw[z2e (by rw[ah];omega)]
 exact z1C g hf
theorem x0k{p:Nat->Bool}{k:Nat}:(ad (k+1)).filter p=(ad k).filter p++if p k=true then [k] else []:=by rw[b8,bP,bf,List.filter_nil]
theorem z1u{m:Nat}(h:m≤1000000):x0R (some (.int (m:Int)))=some (z2h 0 m):=by rw[z6X (by omega)];rfl
theorem y7d{a:Nat}{th:List Nat}:x0u (.int (a:Int)) (thD th)=some (th.contains a):=by
 unfold thD x0u
 show(if(okP (.int (a:Int))&&okP (.lst (th.map nD)))=true then _ else none)=_
 rw[show okP (.lst (th.map nD))=true from okP_th th,show okP (.int (a:Int))=true from rfl]
 show some ((th.map nD).any fun y=>PyData.eqv (toP y) (toP (.int (a:Int))))=_
 congr 1
 rw[cE,cO]
 congr 1
 funext x
 show decide ((x:Int)=(a:Int))=(a==x)
 by_cases h:x=a
 ·subst h;simp
 ·have:¬ a=x:=fun e=>h e.symm
  have h2:¬ (x:Int)=(a:Int):=by omega
  simp[this,h2]
theorem x2H{a:Nat}{th:List Nat}:inD (.int (a:Int)) (thD th)=some (.bl (th.contains a)):=by
 unfold inD
 rw[y7d]
 rfl
theorem nin_ths{a:Nat}{th:List Nat}:ninD (.int (a:Int)) (thD th)=some (.bl (!th.contains a)):=by
 unfold ninD
 rw[y7d]
 rfl
theorem tru_th{th:List Nat}:z7u (thD th)=some (!th.isEmpty):=by cases th <;> rfl
theorem y3R{α:Type}{enc:α->D}{c:DS->Option Bool}{f:DE}{δ:DS}(p:Nat->α->Bool)(g:Nat->α->D):∀{xs:List α} {k:Nat},(∀i (h:i<xs.length),c (δ++[some (.int ((k+i:Nat):Int)),some (enc xs[i])])=some (p (k+i) xs[i]))->(∀i (h:i<xs.length),p (k+i) xs[i]=true->f (δ++[some (.int ((k+i:Nat):Int)),some (enc xs[i])])=some (g (k+i) xs[i])) →
  z0Z (two (z3D c f δ)) (z0r k (xs.map enc))=some (((xs.zipIdx k).filter fun z=>p z.2 z.1).map fun z=>g z.2 z.1)
 |[],_,_,_=>rfl
 |x::r,k,hc,hf=>by
  have ih:=y3R (xs:=r) (k:=k+1) p g (fun i h=>by
   have:=hc (i+1) (by simpa using h)
   have e:k+1+i=k+(i+1):=by omega
   rw[e]
   simpa using this) fun i h hp=>by
   have e:k+1+i=k+(i+1):=by omega
   rw[e]at hp ⊢
   have:=hf (i+1) (by simpa using h) (by simpa using hp)
   simpa using this
  show z0Z _ (.tup [.int (k:Nat),enc x]::z0r (k+1) (r.map enc))=_
  unfold z0Z
  rw[ih]
  have h0:=hc 0 (by simp)
  have h1:=hf 0 (by simp)
  simp only[Nat.add_zero,List.getElem_cons_zero]at h0 h1
  have e:two (z3D c f δ) (.tup [.int (k:Nat),enc x])=some (if p k x=true then some (g k x)else none):=by
   show z3D c f δ (.int (k:Nat)) (enc x)=_
   unfold z3D
   rw[h0]
   cases hp:p k x with
   |true=>
    have:=h1 hp
    show(if true=true then(f (δ++[some (.int (k:Nat)),some (enc x)])).map some else some none)=_
    rw[if_pos rfl,this]
    rfl
   |false=>rfl
  rw[e,List.zipIdx_cons,bf]
  show some (x0q _ _)=_
  cases hp:p k x with
  |true=>rfl
  |false=>rfl
theorem x3o{α:Type}{enc:α->D}{c:DS->Option Bool}{f:DE}{δ:DS}(p:Nat->α->Bool)(g:Nat->α->D){xs:List α}(hl:xs.length≤1000)(hc:∀i (h:i<xs.length),c (δ++[some (.int (i:Int)),some (enc xs[i])])=some (p i xs[i]))(hf:∀i (h:i<xs.length),p i xs[i]=true->f (δ++[some (.int (i:Int)),some (enc xs[i])])=some (g i xs[i])):
  z2c (some (z0r 0 (xs.map enc))) (two (z3D c f δ))=some ((xs.zipIdx.filter fun z=>p z.2 z.1).map fun z=>g z.2 z.1):=by
 rw[z2e (by rw[z6V,ah];omega)]
 refine y3R p g (fun i h=>?_) fun i h hp=>?_
 ·rw[Nat.zero_add];exact hc i h
 ·rw[Nat.zero_add]at hp ⊢;exact hf i h hp
theorem cx2_all{α:Type}{enc:α->D}{f:DE}{δ:DS}(g:Nat->α->D){xs:List α}(hl:xs.length≤1000)(hf:∀i (h:i<xs.length),f (δ++[some (.int (i:Int)),some (enc xs[i])])=some (g i xs[i])):
  z2c (some (z0r 0 (xs.map enc))) (two (z3D z4C f δ))=some (xs.zipIdx.map fun z=>g z.2 z.1):=by
 rw[x3o (fun _ _=>true) g hl (fun _ _=>rfl) fun i h _=>hf i h,bq.mpr fun _ _=>rfl]
theorem y8m{th:List Nat}:y5H (thD th)=some (z0r 0 (th.map nD)):=(rfl)
theorem z9H{o:List Nat}{k:Nat}:cut3 (some (thD o)) (some (some ((k:Int)+1))) (some none)=some ((o.drop (k+1)).map nD):=by
 show some (z4W (o.map nD) (some ((k:Int)+1)) none)=_
 unfold z4W
 have e1:HT.sIx (o.map nD).length (o.map nD).length none=(o.map nD).length:=rfl
 have e2:HT.sIx (o.map nD).length 0 (some ((k:Int)+1))=min (k+1) (o.map nD).length:=by
  show(if((k:Int)+1)<0 then(((k:Int)+1)+((o.map nD).length:Int)).toNat else min ((k:Int)+1).toNat (o.map nD).length)=_
  rw[if_neg (by omega)]
  congr 1
 rw[e1,e2,c5]
 congr 1
 by_cases h:k+1≤(o.map nD).length
 ·rw[Nat.min_eq_left h,cS (by simp)]
 ·rw[Nat.min_eq_right (by omega),d9 (as:=o.map nD) (aj _),List.take_nil,d9 (by omega)]
theorem x2I{a b:List Nat}(h:a.length+b.length≤1000000):x0I (some (thD a)) (some (thD b))=some ((a++b).map nD):=by
 show x0I (some (.lst (a.map nD))) (some (.lst (b.map nD)))=_
 rw[y3Q (by rw[ah,ah];exact h),aD]
theorem y1H(o:List Nat):D.lst (o.map nD)=thD o:=(rfl)
theorem th_one{j:Nat}:D.lst [.int (j:Int)]=thD [j]:=(rfl)
theorem z4r(o:List Nat):z6L (some (o.map nD))=some (o.map nD):=z1R (y1g o)
theorem z6q:z6L (some [])=some []:=(rfl)
theorem th_nil:D.lst []=thD []:=(rfl)
def movX(x:Option D)(i j:Nat)(s:SS):Option Out:=match x with
 |some d=>some (.nx (((z0y j s).set j none).set i (some (.ow d))))
 |none=>none
theorem x3h{i j:Nat}{s:SS}:movO i j s=movX (owA j s) i j s:=by
 unfold movO owA movX
 generalize s[j]? = z
 rcases z with _ | _ | x
 ·rfl
 ·rfl
 ·cases x <;> rfl
theorem x2F{d:D}{i j:Nat}{s:SS}:movX (some d) i j s=some (.nx (((z0y j s).set j none).set i (some (.ow d)))):=(rfl)
theorem z3s{c:DS->Option Bool}{b:SS->Option Out}{QO:Out->Prop}(I:Nat->SS->Prop):∀{n:Nat} {s:SS},I n s->(∀n δ,I n δ->∃k,c (z0A δ)=some k∧(k=false->QO (.nx δ))∧(k=true->∃n',n=n'+1∧hol (b δ) fun o=>match o with | .nx δ'=>I n' δ' | .ct δ'=>I n' δ' | .bk δ'=>QO (.nx δ') | .rt d=>QO (.rt d) | .rb d δ'=>QO (.rb d δ') | .ex e δ'=>QO (.ex e δ')))->∀{f:Nat},n<f->hol (z3H c b f s) QO
 |n,s,h0,hs,0,hf=>absurd hf (by omega)
 |n,s,h0,hs,f+1,hf=>by
  obtain⟨k,ec,h1,h2⟩:=hs n s h0
  unfold z3H
  rw[ec]
  cases k with
  |false=>exact⟨_,rfl,h1 rfl⟩
  |true=>
   obtain⟨n',rfl,o,eb,q⟩:=h2 rfl
   show hol ((b s).bind _) QO
   rw[eb]
   cases o with
   |nx s1=>exact z3s I q hs (by omega)
   |ct s1=>exact z3s I q hs (by omega)
   |bk s1=>exact⟨_,rfl,q⟩
   |rt d=>exact⟨_,rfl,q⟩
   |rb d s1=>exact⟨_,rfl,q⟩
   |ex e s1=>exact⟨_,rfl,q⟩
theorem y2g{np nl:Nat}{b:SS->Option Out}{ds:List D}{d:D}(hl:ds.length=np)(h:hol (b (ds.map (fun d=>some (.sh d))++am nl none)) fun o=>o = .rt d):y4p np nl b ds=some (.val d):=by
 unfold y4p
 rw[if_pos hl,hol_is.mp h]
theorem runX_nx{np nl:Nat}{b:SS->Option Out}{ds:List D}(hl:ds.length=np)(h:hol (b (ds.map (fun d=>some (.sh d))++am nl none)) fun o=>∃s,o = .nx s):y4p np nl b ds=some (.val .non):=by
 obtain⟨_,e,s,rfl⟩:=h
 unfold y4p
 rw[if_pos hl,e]
theorem runX_ex{np nl:Nat}{b:SS->Option Out}{ds:List D}{c:Nat}(hl:ds.length=np)(h:hol (b (ds.map (fun d=>some (.sh d))++am nl none)) fun o=>∃s,o = .ex c s):y4p np nl b ds=some (.exc c):=by
 obtain⟨_,e,s,rfl⟩:=h
 unfold y4p
 rw[if_pos hl,e]
def rsX(c:Nat)(x:Option D)(s:SS):Option Out:=match x with
 |some _=>some (.ex c s)
 |none=>none
theorem y3V{c:Nat}{f:DE}{s:SS}:z4Y c f s=rsX c (f (z0A s)) s:=by
 unfold z4Y rsX
 generalize f (z0A s)=x
 cases x <;> rfl
theorem y3O{c:Nat}{d:D}{s:SS}:rsX c (some d) s=some (.ex c s):=(rfl)
theorem y3n{m:List D->Option XO}{fl:List DE}{δ:DS}:z6z m fl δ=(z0m fl δ).bind m:=(rfl)
theorem y4w{m:List D->Option XO}{fl:List DE}{δ:DS}:z7h m fl δ=valO ((z0m fl δ).bind m):=(rfl)
def repO(x y:Option D):Option (List D):=x.bind fun a=>y.bind fun b=>repLs a b
theorem x3w{f g:DE}{δ:DS}:dRep f g δ=repO (f δ) (g δ):=(rfl)
theorem eo_repN{d:D}{n:Nat}(h:n≤1000000):repO (some (.lst [d])) (some (.int (n:Int)))=some (am n d):=by
 have e:∀k:Nat,(am k [d]).flatten=am k d:=fun k=>by
  induction k with
  |zero=>rfl
  |succ k ih=>rw[bg,bA,ih,bg];rfl
 show(if(0≤(n:Int)∧(n:Int)≤1000000)∧[d].length*(n:Int).toNat≤sizeLine then some (am (n:Int).toNat [d]).flatten else none)=_
 rw[if_pos ⟨⟨by omega,by omega⟩,z1X (by simp;exact h)⟩,ck,e]
theorem y4u{f g:DE}{δ:DS}:y6T f g δ=o2 mkD1 (f δ) (g δ):=ev_d2
theorem y9g{f g h:DE}{δ:DS}:x0s f g h δ=rngN (f δ) (g δ) (h δ):=(rfl)
theorem y9V{a b:Int}:mkD1 (.int a) (.int b)=some (.dct [.inl a] [.int b]):=(rfl)
theorem y8e{ds:List D}{i:Int}:ixL (.lst ds) (.int i)=atI ds i:=(rfl)
def forX2(i j:Nat)(xs:Option (List D))(b:SS->Option Out)(s:SS):Option Out:=xs.bind fun ds=>z5p i j b ds s
theorem y4H{i j:Nat}{f:DS->Option (List D)}{g:SS->Option Out}{s:SS}:x1P i j f g s=forX2 i j (f (shV s)) g s:=(rfl)
theorem y9S{i j:Nat}{ds:List D}{b:SS->Option Out}{s:SS}:forX2 i j (some ds) b s=z5p i j b ds s:=(rfl)
theorem x2u{d:D}:valO (some (.val d))=some d:=(rfl)
def xeO(x:Option XO)(s:SS):Option Out:=match x with
 |some (.val _)=>some (.nx s)
 |some (.exc c)=>some (.ex c s)
 |none=>none
theorem y3l{F:DS->Option XO}{s:SS}:y8W F s=xeO (F (z0A s)) s:=by
 unfold y8W xeO
 generalize F (z0A s)=x
 rcases x with _ | _ | _ <;> rfl
theorem x3r{d:D}{s:SS}:xeO (some (.val d)) s=some (.nx s):=(rfl)
theorem y6G{d:D}{r:SS}:y7a (some (.ow d)::r) 0=some d:=(rfl)
theorem y8f{x:Option SD}{r:SS}{i:Nat}:y7a (x::r) (i+1)=y7a r i:=by
 unfold y7a
 rw[d4]
theorem y4T{x:Option Out}{b:SS->Option Out}{I:SS->Prop}{d:D}(h:hol x fun o=>(∃s,o = .nx s∧I s)∨o = .rt d)(k:∀s,I s->hol (b s) fun o=>o = .rt d):hol (y5J x b) fun o=>o = .rt d:=by
 obtain⟨o,rfl,q⟩:=h
 rcases q with⟨s,rfl,q⟩ | rfl
 ·exact k s q
 ·exact⟨_,rfl,rfl⟩
def okN(n:Nat)(d:D):Prop:=(toP d).canLay0=true∧(toP d).depth≤n
theorem okN_bl{b:Bool}:okN 0 (.bl b):=⟨rfl,aj 0⟩
theorem okP_of{n:Nat}{d:D}(h:okN n d)(hn:n≤60):okP d=true:=by
 unfold okP
 rw[aA,decide_eq_true_eq]
 exact⟨h.1,aF h.2 hn⟩
theorem ne_same{n:Nat}{d:D}(h:okN n d)(hn:n≤60):neD d d=some (.bl false):=ne_self (okP_of h hn)
theorem y2X{x:D}{r:List D}:atI (x::r) 0=some x:=z1M (j:=0) rfl
theorem y7o{x y:D}{r:List D}:atI (x::y::r) 1=some y:=z1M (j:=1) rfl
def z5d(ws:List Int):D:=.lst (ws.map .int)
def x0v(x:Option D)(lo hi:Option (Option Int)):Option D:=match x,lo,hi with
 |some (.tup ds),some l,some h=>some (.tup (z4W ds l h))
 |_,_,_=>none
theorem y7m{f:DE}{fl fh:DS->Option (Option Int)}{δ:DS}:y5K f fl fh δ=x0v (f δ) (fl δ) (fh δ):=by
 unfold y5K x0v
 rcases f δ with _ | (_ | _ | _ | _ | _ | _ | _ | _) <;> first | rfl | (cases fl δ <;> cases fh δ <;> rfl)
theorem y1f{ds:List D}{k:Nat}(hk:k≤ds.length):z4W ds none (some (k:Int))=ds.take k:=by
 unfold z4W
 have e1:HT.sIx ds.length 0 none=0:=rfl
 have e2:HT.sIx ds.length ds.length (some (k:Int))=k:=by
  show(if(k:Int)<0 then((k:Int)+(ds.length:Int)).toNat else min (k:Int).toNat ds.length)=k
  rw[if_neg (by omega)]
  omega
 rw[e1,e2,dS,eu]
theorem y0S{ds:List D}{k:Nat}:z4W ds (some (k:Int)) none=ds.drop k:=by
 unfold z4W
 have e1:HT.sIx ds.length 0 (some (k:Int))=min k ds.length:=by
  show(if(k:Int)<0 then((k:Int)+(ds.length:Int)).toNat else min (k:Int).toNat ds.length)=_
  rw[if_neg (by omega),ck]
 have e2:HT.sIx ds.length ds.length none=ds.length:=rfl
 rw[e1,e2]
 by_cases h:k≤ds.length
 ·rw[Nat.min_eq_left h]
  exact cS (by rw[dz];exact aj _)
 ·rw[Nat.min_eq_right (by omega),d8 (aj _),d8 (by omega),List.take_nil]
theorem max_in{ws:List Int}(h:ws≠[]):y9Z [z5d ws]=some (.int (mxI ws)):=by
 show((z2w (ws.map D.int)).bind fun ns=>if ns.isEmpty=true then none else some (D.int (mxI ns)))=_
 rw[z4z,av,if_neg (by simpa using h)]
theorem min_in{ws:List Int}(h:ws≠[]):y7w [z5d ws]=some (.int (mnI ws)):=by
 show((z2w (ws.map D.int)).bind fun ns=>if ns.isEmpty=true then none else some (D.int (mnI ns)))=_
 rw[z4z,av,if_neg (by simpa using h)]
theorem ix_in{ws:List Int}{k:Nat}(h:k<ws.length):ixD (z5d ws) (.int (k:Int))=some (.int (ws.getD k 0)):=by
 have e:ws.getD k 0=ws[k]:=by simp[aZ,ac h]
 rw[e]
 exact y7G (by rw[ac (by simpa using h),bY])
theorem lst_in{ws:List Int}:D.lst (ws.map .int)=z5d ws:=(rfl)
theorem flat_in(o:List Int):z6L (some (o.map D.int))=some (o.map D.int):=z1R (z2X o)
def cM2(F:List D->Option D)(a b:Option D)(cs:Option (List D)):Option D:=a.bind fun a=>b.bind fun b=>cs.bind fun cs=>F (a::b::cs)
theorem y0B{F:List D->Option D}{f0 f1:DE}{fl:List DE}{δ:DS}:z6S F f0 f1 fl δ=cM2 F (f0 δ) (f1 δ) (z0m fl δ):=(rfl)
theorem x3z{F:List D->Option D}{a b:D}{cs:List D}:cM2 F (some a) (some b) (some cs)=F (a::b::cs):=(rfl)
def r1O(x:Option D):Option Out:=x.map fun d=>.rt (.lst [d])
theorem y9q{i:Nat}{s:SS}:ret1 i s=r1O (y7a s i):=(rfl)
theorem eo_r1{d:D}:r1O (some d)=some (.rt (.lst [d])):=(rfl)
theorem y4q{np nl:Nat}{b:SS->Option Out}{du d0:D}{ds:List D}{d:D}(hl:ds.length+2=np)(h:hol (b (some (.sh du)::some (.ow d0)::ds.map (fun d=>some (.sh d))++am nl none)) fun o=>o = .rt d):y2r np nl b (du::d0::ds)=some d:=by
 obtain⟨o,e,rfl⟩:=h
 show(if ds.length+2=np then _ else none)=some d
 rw[if_pos hl]
 rw[e]
def zpO(x y:Option D):Option (List D):=x.bind fun a=>y.bind fun b=>zipS a b
theorem ev_zip{f g:DE}{δ:DS}:dZip f g δ=zpO (f δ) (g δ):=(rfl)
def sgn(x:Str):Prop:=∀c∈x.cps.toList,c<128
theorem z5s{c:Nat}(h:c<128):sgn ⟨#[c]⟩:=fun d hd=>by
 have:d=c:=by simpa using hd
 omega
section
variable{n:Int}{r:List D}{o:D}{s:SS}{i j:Nat}{f:DE}
theorem se(x:Str):(x==x)=true:=beq_self_eq_true x
theorem y2n:∀o:List Int,(z8I (o.map D.int)).isSome=true
 |[]=>rfl
 |n::r=>by
  show((z8I (r.map D.int)).map (n :: ·)).isSome=true
  rw[cK]
  exact y2n r
theorem popK_eq{x y:List Int}{p:Nat}(hi:s[i]? = some (some (.ow (.lst (x.map .int)))))(hj:s[j]? = some (some (.ow (.lst (y.map .int)))))(hf:f (z0A s)=some (.int (p:Int)))(hp:p<y.length)(hl:x.length≤1000)(hy:y.length≤1000):
  z6C i j f s=some (.nx ((z0y i ((z0y j s).set j (some (.ow (.lst ((y.eraseIdx p).map .int)))))).set i (some (.ow (.lst ((x++[y[p]]).map .int)))))):=by
 unfold z6C
 rw[hf,av,hi,hj]
 have e1:(y.map D.int)[((p:Nat):Int).toNat]? = some (.int y[p]):=by
  rw[ck,aB,ac hp]
  rfl
 refine(if_pos ⟨by rw[ah,PySem.sizeLine_eq];omega,y2n x,y2n y,by omega,by rw[ah];omega,by rw[ah,PySem.sizeLine_eq];omega⟩).trans ?_
 rw[e1]
 show some (Out.nx (popS i j y[p] (x.map .int) ((y.map D.int).eraseIdx ((p:Nat):Int).toNat) s))=_
 unfold popS
 rw[ck,z4B,aD]
 rfl
end
section
end
section
end
end L2
set_option maxHeartbeats 4000000
namespace Prg
open PySem PySem.Spec PyProof.Rows L2
def top(i:Nat):Stmt:=PySem.Challenge.pw_askorder_k86_whole_raising_keeps.main.body.getD i (.Pass ⟨0,0,0,0⟩)
abbrev y6i:Stmt:=top 1
abbrev jC:List Str:=["table", "things"]
abbrev x2v:List Str:=["table", "things"]
abbrev z9x:Stmt:=top 2
abbrev x1S:List Str:=["row", "things"]
abbrev y3s:List Str:=["row", "things"]
abbrev z9v:Stmt:=top 3
abbrev x1R:List Str:=["table", "one"]
abbrev y4E:List Str:=["table", "one"]
abbrev z4v:Stmt:=top 4
abbrev y2w:List Str:=["table", "one"]
abbrev z6K:List Str:=["table", "one"]
abbrev z3A:Stmt:=top 5
abbrev y0A:List Str:=["table", "one"]
abbrev z5P:List Str:=["table", "one"]
abbrev z4e:Stmt:=top 6
abbrev y2E:List Str:=["table", "one", "things"]
abbrev z7a:List Str:=["table", "one", "things"]
abbrev z3c:Stmt:=top 7
abbrev z8D:List Str:=["marks"]
abbrev z4F:List Str:=["marks"]
abbrev z9f:Stmt:=top 9
abbrev x1i:List Str:=["table", "one", "other"]
abbrev y3k:List Str:=["table", "one", "other"]
abbrev z4o:Stmt:=top 10
abbrev y2G:List Str:=["table"]
abbrev z7n:List Str:=["table"]
abbrev z3u:Stmt:=top 11
abbrev y0l:List Str:=["table", "one"]
abbrev z5S:List Str:=["table", "one"]
abbrev z5v:Stmt:=top 13
abbrev y5w:List Str:=["table", "things"]
abbrev z8f:List Str:=["table", "things"]
abbrev z6Z:Stmt:=top 14
abbrev y9p:List Str:=["table", "things"]
abbrev y0d:List Str:=["table", "things"]
abbrev z9T:Stmt:=top 15
abbrev x1q:List Str:=["table", "chain"]
abbrev y4d:List Str:=["table", "chain"]
abbrev z8F:Stmt:=top 17
abbrev x1W:List Str:=["table"]
abbrev y4I:List Str:=["table"]
abbrev z2U:Stmt:=top 18
abbrev z9F:List Str:=["table", "thing", "chains", "chain"]
abbrev z4O:List Str:=["table", "thing"]
abbrev z1G:Stmt:=top 19
abbrev z7M:List Str:=["table", "chain", "further", "chains", "thing"]
abbrev z2r:List Str:=["table", "chain", "further"]
abbrev z6t:Stmt:=top 26
abbrev y6E:List Str:=["table", "one"]
abbrev y1A:List Str:=["table", "one"]
abbrev z3y:Stmt:=top 27
abbrev y1k:List Str:=["table", "one", "steps", "edge", "further", "here", "other"]
abbrev z5Q:List Str:=["table", "one"]
abbrev y2q:Stmt:=top 28
abbrev js:List Str:=["table", "counts"]
abbrev y9G:List Str:=["table"]
abbrev z2W:Stmt:=top 29
abbrev z9h:List Str:=["counts", "wanted"]
abbrev z4H:List Str:=["counts", "wanted"]
abbrev z5E:Stmt:=top 30
abbrev y4X:List Str:=["table"]
abbrev z7Z:List Str:=["table"]
abbrev z5z:Stmt:=top 32
abbrev y5o:List Str:=["value", "many"]
abbrev z7Y:List Str:=["value", "many"]
abbrev z1A:Stmt:=top 33
abbrev z5x:List Str:=["order", "many", "told", "thing"]
abbrev z2K:List Str:=["order", "many"]
abbrev y2h:Stmt:=top 34
abbrev jt:List Str:=["votes", "many", "ballot"]
abbrev y2b:List Str:=["votes", "many"]
abbrev z9S:Stmt:=top 35
abbrev x1m:List Str:=["votes"]
abbrev y4s:List Str:=["votes"]
abbrev y6Q:Stmt:=top 36
abbrev jD:List Str:=["votes", "one", "other", "ahead", "behind"]
abbrev x3d:List Str:=["votes", "one", "other"]
abbrev z3t:Stmt:=top 37
abbrev y1h:List Str:=["order", "one", "other"]
abbrev z5V:List Str:=["order", "one", "other"]
abbrev z2B:Stmt:=top 38
abbrev z7L:List Str:=["order", "thing", "place"]
abbrev z2y:List Str:=["order", "thing"]
abbrev z5F:Stmt:=top 39
abbrev y5i:List Str:=["votes", "many"]
abbrev z5w:List Str:=["votes", "many"]
abbrev z8u:Stmt:=top 40
abbrev x0N:List Str:=["votes", "many", "one"]
abbrev y3m:List Str:=["votes", "many", "one"]
abbrev z1W:Stmt:=top 42
abbrev z9U:List Str:=["table", "total", "mate"]
abbrev z3j:List Str:=["table"]
abbrev y6x:Stmt:=top 43
abbrev jE:List Str:=["table", "mate"]
abbrev x3t:List Str:=["table", "mate"]
abbrev z3k:Stmt:=top 44
abbrev z9q:List Str:=["times"]
abbrev z4A:List Str:=["times"]
abbrev z6R:Stmt:=top 45
abbrev y8y:List Str:=["table", "things"]
abbrev y0e:List Str:=["table", "things"]
abbrev z9z:Stmt:=top 46
abbrev x1L:List Str:=["table"]
abbrev y3B:List Str:=["table"]
abbrev y2R:Stmt:=top 48
abbrev ju:List Str:=["table", "weights", "thing"]
abbrev y6H:List Str:=["table", "weights", "thing"]
abbrev z4g:Stmt:=top 49
abbrev y1X:List Str:=["weights", "things"]
abbrev z6Q:List Str:=["weights", "things"]
abbrev z6W:Stmt:=top 50
abbrev y6O:List Str:=["table", "weights"]
abbrev y0v:List Str:=["table", "weights"]
abbrev z3v:Stmt:=top 51
abbrev y0q:List Str:=["table", "weights", "thing"]
abbrev z5T:List Str:=["table", "weights", "thing"]
abbrev z5e:Stmt:=top 52
abbrev y4S:List Str:=["table", "things", "weights"]
abbrev z7W:List Str:=["table"]
abbrev z4f:Stmt:=top 53
abbrev y1R:List Str:=["things", "picks", "thing"]
abbrev z7o:List Str:=["things"]
abbrev z3G:Stmt:=top 54
abbrev y1K:List Str:=["table", "things", "numbers", "divisor", "weights", "thing", "number"]
abbrev z5J:List Str:=["table", "things"]
abbrev z1P:Stmt:=top 55
abbrev z6a:List Str:=["numbers", "divisor", "number"]
abbrev z3l:List Str:=["numbers"]
abbrev z1Q:Stmt:=top 56
abbrev z6b:List Str:=["one", "other", "rest"]
abbrev z3q:List Str:=["one", "other"]
abbrev z2Q:Stmt:=top 58
abbrev z8K:List Str:=["table", "thing"]
abbrev z4Z:List Str:=["table", "thing"]
abbrev z2v:Stmt:=top 59
abbrev z7D:List Str:=["votes", "place", "thing", "ballot"]
abbrev z2z:List Str:=["votes", "place", "thing"]
abbrev z3I:Stmt:=top 61
abbrev y0x:List Str:=["cell", "many", "left", "order"]
abbrev z5L:List Str:=["cell", "many"]
abbrev z3M:Stmt:=top 62
abbrev y0f:List Str:=["script", "many", "votes", "whole", "cell", "rest"]
abbrev z5U:List Str:=["script", "many"]
abbrev z4s:Stmt:=top 63
abbrev y2P:List Str:=["before", "behind", "thing", "one", "other"]
abbrev z6v:List Str:=["before", "behind", "thing"]
abbrev z9N:Stmt:=top 64
abbrev jK:List Str:=["script", "many", "first", "votes", "thing", "table", "stood", "k", "at", "behind", "stands_now"]
abbrev jb:List Str:=["script"]
theorem nd0:(["row", "things", "other"]:List Str).Nodup:=by decide +kernel
theorem nd1:(["table", "things", "one"]:List Str).Nodup:=by decide +kernel
theorem nd2:(["table", "one", "row"]:List Str).Nodup:=by decide +kernel
theorem nd3:(["table", "one", "things", "other"]:List Str).Nodup:=by decide +kernel
theorem nd4:(["marks", "place", "mark"]:List Str).Nodup:=by decide +kernel
theorem nd5:(["table", "one", "other"]:List Str).Nodup:=by decide +kernel
theorem nd6:(["table", "one"]:List Str).Nodup:=by decide +kernel
theorem nd7:(["table", "things", "place", "one"]:List Str).Nodup:=by decide +kernel
theorem nd8:(["table", "chain", "further", "chains", "thing", "other"]:List Str).Nodup:=by decide +kernel
theorem nd9:(["table", "thing", "chains", "3", "chain"]:List Str).Nodup:=by decide +kernel
theorem nd10:(["table", "thing"]:List Str).Nodup:=by decide +kernel
theorem nd11:(["counts", "wanted", "place", "count"]:List Str).Nodup:=by decide +kernel
theorem nd12:(["table", "counts", "count"]:List Str).Nodup:=by decide +kernel
theorem nd13:(["table", "counts", "one"]:List Str).Nodup:=by decide +kernel
theorem nd14:(["votes", "ballot"]:List Str).Nodup:=by decide +kernel
theorem nd15:(["votes", "one", "other", "ahead", "behind", "ballot"]:List Str).Nodup:=by decide +kernel
theorem nd16:(["votes", "many", "one", "other"]:List Str).Nodup:=by decide +kernel
theorem nd17:(["votes", "many", "one"]:List Str).Nodup:=by decide +kernel
theorem nd18:(["table", "things", "thing"]:List Str).Nodup:=by decide +kernel
theorem nd19:(["weights", "things", "thing"]:List Str).Nodup:=by decide +kernel
theorem nd20:(["table", "weights", "thing"]:List Str).Nodup:=by decide +kernel
theorem nd21:(["things", "picks", "thing", "pick"]:List Str).Nodup:=by decide +kernel
theorem nd22:(["before", "behind", "thing", "one", "4", "other"]:List Str).Nodup:=by decide +kernel
theorem nd23:(["script", "many", "first", "votes", "thing", "table", "stood", "k", "at", "behind", "stands_now", "j"]:List Str).Nodup:=by decide +kernel
def z9y:SS->Option Out:=(z7z (z0B (z0X (z5W (z0d 1)) z4C (d2 ixD (z0d 0) (z0d 2)))))
def z4L:List D->Option D:=z1y 2 0 z9y
def y8T:SS->Option Out:=(z7z (mkL (z0X (z5W (z0d 1)) z4C (z0k z4L [(d2 ixD (z0d 0) (z0d 2)),(z0d 1)]))))
def z7R:List D->Option D:=z1y 2 0 y8T
def z8R:SS->Option Out:=(z7z (z0B (z0X (z5W (z0d 0)) z4C (d2 ixD (z0d 2) (z0d 1)))))
def z6i:List D->Option D:=z1y 2 0 z8R
def z4j:SS->Option Out:=(z3m (z0k allF [(mkL (z0X (z5W (z0d 2)) z4C (d2 ixD (d2 ixD (z0d 0) (z0d 1)) (z0d 3))))]))
def z0T:List D->Option D:=z1y 3 0 z4j
def z2P:SS->Option Out:=(z7z (z0B (z5I (y5h (z0d 0)) (z0u (z0d 2)) (z0d 1))))
def z1d:List D->Option D:=z1y 1 0 z2P
def z4l:SS->Option Out:=(z7z (z0k z1d [(d2 ixD (z0d 0) (z0d 1))]))
def z0D:List D->Option D:=z1y 2 0 z4l
def z3P:SS->Option Out:=(z7z (z0k z1d [(z0k z6i [(z0d 0),(z0d 1)])]))
def z2k:List D->Option D:=z1y 2 0 z3P
def z9k:SS->Option Out:=(z3m (x0g (d2 ixD (d2 ixD (z0d 0) (z0d 1)) (z0d 2)) (z0k z0T [(z0d 0),(z0d 1),(z0k z0D [(z0d 0),(z0d 2)])])))
def z6p:List D->Option D:=z1y 3 0 z9k
def z3O:SS->Option Out:=(z3m (z0k anyF [(mkL (z0X (z1L (z0k z2g [(z0d 0)])) z4C (z0k z6p [(z0d 0),(z0d 2),(z0d 1)])))]))
def z2q:List D->Option D:=z1y 2 0 z3O
def z4p:SS->Option Out:=(z7z (z0B (z0X (z1L (z0k z2g [(z0d 0)])) (z4h (z0u (z0k z2q [(z0d 0),(z0d 1)]))) (z0d 1))))
def z1o:List D->Option D:=z1y 1 0 z4p
def z3R:SS->Option Out:=(z0V (ifO (z0Q (d2 eqD (z0k z2g [(z0d 1)]) (dC (.int 0)))) (z3m (dC (.bl false))) z1T)
 (z3m (z0k allF [(mkL (z5I (y5h (z0d 1)) z4C (z0k z0T [(z0d 0),(z0d 3),(mkL (x1B (z0d 1) (z7l (d2 y3L (z0d 2) (dC (.int 1)))) z3E))])))])))
def z3X:List D->Option D:=z1y 2 0 z3R
def z6y:SS->Option Out:=(z7z (z0B (z0X (z1L (z0k z2g [(z0d 0)])) (z0u (z0k z0T [(z0d 0),(z0d 2),(z0d 1)])) (z0d 2))))
def z2d:List D->Option D:=z1y 2 0 z6y
def z8W:SS->Option Out:=(z3m (x0g (z0k z3X [(z0d 0),(z0d 1)]) (d2 eqD (z0k z2g [(z0k z2d [(z0d 0),(z0d 1)])]) (dC (.int 0)))))
def z4V:List D->Option D:=z1y 2 0 z8W
def z1I(mR:List D->Option D):SS->Option Out:=(z0V (ifO (z4h (z0u (z0d 2))) (ret1 1) z1T)
 (z0V (y1B 3 (z0B (z0m [])))
 (z0V (y0a 4 (z5W (z0d 2)) (y9Y 3 (z6S mR (z0d 0) (z0B (x0i (z0d 1) (mkL (z0m [(z0d 4)])))) [(mkL (z0X (z5W (z0d 2)) (z0u (d2 ixD (d2 ixD (z0d 0) (z0d 4)) (z0d 5))) (z0d 5)))])))
 (x0O 3))))
def z1a:Nat->List D->Option D
 |0=>y2r 3 2 fun _=>none
 |n+1=>y2r 3 2 (z1I (z1a n))
def z1E:List D->Option D:=z1a 12
def z3e:SS->Option Out:=(z0V (y1Q 2 (z6S z1E (z0d 0) (z0B (z0m [(z0d 1)])) [(z0k z0D [(z0d 0),(z0d 1)])]))
 (z0V (y0a 3 (z5W (z0d 2)) (ifO (z0u (z0k z4V [(z0d 0),(z0d 3)])) (retS (mkT (z0m [(dC (.str "chain")),(z0d 3)]))) z1T))
 (retS (mkT (z0m [(dC (.str "beaten")),(mkL (z0X (z5W (z0d 2)) z4C (mkT (z0m [(z0d 4),(d2 ixD (z0k z2d [(z0d 0),(z0d 4)]) (dC (.int 0)))]))))])))))
def z1t:List D->Option D:=z1y 2 2 z3e
def z8G:SS->Option Out:=(z7z (z0B (z0X (z1L (z0k z2g [(z0d 0)])) (z0Q (d2 eqD (d2 ixD (z0k z1t [(z0d 0),(z0d 1)]) (dC (.int 0))) (dC (.str "chain")))) (z0d 1))))
def z4Q:List D->Option D:=z1y 1 0 z8G
def z3L:SS->Option Out:=(z0V (y1B 2 (y6T (z0d 1) (z0d 1)))
 (z0V (y1B 3 (z0B (z0m [(z0d 1)])))
 (z0V (z3H (z0u (z0d 3)) (z0V (y1B 4 (z0B (z0m [])))
 (z0V (frzO 3 (y0a 5 (z5W (z0d 3)) (y0a 6 (z5W (z0k z0D [(z0d 0),(z0d 5)])) (ifO (x0B (z0d 6) (z0d 2)) (z0V (dput 2 (z0d 6) (z0d 5))
 (m0 4 appF [(z0d 6)])) z1T))))
 (movO 3 4))) 100)
 (x0O 2))))
def z2n:List D->Option D:=z1y 2 5 z3L
def z6w:SS->Option Out:=(z7z (z0B (y1E y1j [(z0k z2n [(z0d 0),(z0d 1)])])))
def z3F:List D->Option D:=z1y 2 0 z6w
def z2S:SS->Option Out:=(z7z (z0B (z5I (y5h (z0d 0)) (z0Q (d2 eqD (z0d 3) (z0d 1))) (z0d 2))))
def z1x:List D->Option D:=z1y 2 0 z2S
def y2k:SS->Option Out:=(z0V (y1B 1 (z0B (z0X (z1L (z0k z2g [(z0d 0)])) z4C (z0k z2g [(z0k z3F [(z0d 0),(z0d 2)])]))))
 (z7z (mkL (z0X (x0s (z0k z2g [(z0d 0)]) (dC (.int 0)) (d1 x3f (dC (.int 1)))) (z0Q (d2 inD (z0d 2) (z0d 1))) (z0k z1x [(z0d 1),(z0d 2)])))))
def z9G:List D->Option D:=z1y 1 1 y2k
def z5t:SS->Option Out:=(z7z (d2 ixL (z0k z9G [(z0d 0)]) (dC (.int 0))))
def z2H:List D->Option D:=z1y 1 0 z5t
def z5f:SS->Option Out:=(z3m (x0g (dIs "int" (z0d 0)) (x0g (d1 uNot (dIs "bool" (z0d 0))) (z8k leI ltI (dC (.int 0)) (z0d 0) (z0d 1)))))
def z2F:List D->Option D:=z1y 2 0 z5f
def z1c:SS->Option Out:=(z0V (ifO (z0Q (d2 neD (z0k z2g [(z0d 0)]) (z0d 1))) (z3m (dC (.bl false))) z1T)
 (z0V (y1B 2 (dC (.dct [] [])))
 (z0V (y0a 3 (z5W (z0d 0)) (z0V (ifO (dOrT (z4h (z0u (z0k z2F [(z0d 3),(z0d 1)]))) (x0j (z0d 3) (z0d 2))) (z3m (dC (.bl false))) z1T)
 (dput 2 (z0d 3) (dC (.bl true)))))
 (z3m (dC (.bl true))))))
def z0P:List D->Option D:=z1y 2 2 z1c
def z8x:SS->Option Out:=(z3m (z0k sumF [(mkL (z0X (z5W (z0d 0)) z4C (d2 ixD (z0d 1) (dC (.int 0)))))]))
def z3d:List D->Option D:=z1y 1 0 z8x
def z9l:SS->Option Out:=(z0V (y0a 2 (z5W (z0d 0)) (ifO (z4h (z0u (z0k z0P [(d2 ixD (z0d 2) (dC (.int 1))),(z0d 1)]))) (z4Y 1 (dC (.str "the order of a ballot does not tell each thing once and nothing else"))) z1T))
 (ifO (z0Q (d2 eqD (d2 z4y (z0k z3d [(z0d 0)]) (dC (.int 2))) (dC (.int 0)))) (z4Y 2 (dC (.str "the voices of all ballots together are an even number"))) z1T))
def z9B:List D->Option XO:=y4p 2 1 z9l
def z3J:SS->Option Out:=(z3m (d2 ltI (d2 tixF (z0d 0) (z0d 1)) (d2 tixF (z0d 0) (z0d 2))))
def z0W:List D->Option D:=z1y 3 0 z3J
def y6S:SS->Option Out:=(z0V (y1B 3 (z0B (z0X (z5W (z0d 0)) (z0u (z0k z0W [(d2 ixD (z0d 5) (dC (.int 1))),(z0d 1),(z0d 2)])) (z0d 5))))
 (z0V (y1B 4 (z0B (z0X (z5W (z0d 0)) (z0u (z0k z0W [(d2 ixD (z0d 5) (dC (.int 1))),(z0d 2),(z0d 1)])) (z0d 5))))
 (z3m (d2 x2z (z0k z3d [(z0d 3)]) (z0k z3d [(z0d 4)])))))
def y1I:List D->Option D:=z1y 3 2 y6S
def z2u:SS->Option Out:=(z0V (z5Z 2 (d2 tixF (z0d 0) (z0d 1)))
 (z0V (ifO (z0Q (d2 eqD (z0d 2) (dC (.int 0)))) (z4Y 3 (dC (.str "the thing is the best one of the ballot already"))) z1T)
 (z3m (d2 catT (d2 catT (y5K (z0d 0) z3E (z7l (d2 x2z (z0d 2) (dC (.int 1))))) (mkT (z0m [(z0d 1),(d2 ixD (z0d 0) (d2 x2z (z0d 2) (dC (.int 1))))]))) (y5K (z0d 0) (z7l (d2 y3L (z0d 2) (dC (.int 1)))) z3E)))))
def z1h:List D->Option XO:=y4p 2 1 z2u
def z9L:SS->Option Out:=(z7z (z0B (z0X (z1L (z0d 1)) z4C (x0g (d2 neD (z0d 2) (z0d 3)) (d2 gtI (z0k y1I [(z0d 0),(z0d 2),(z0d 3)]) (dC (.int 0)))))))
def z6k:List D->Option D:=z1y 3 0 z9L
def z5g:SS->Option Out:=(z0V (y8W (z6z z9B [(z0d 0),(z0d 1)]))
 (z7z (mkL (z0X (z1L (z0d 1)) z4C (z0k z6k [(z0d 0),(z0d 1),(z0d 2)])))))
def z2E:List D->Option XO:=y4p 2 0 z5g
def y3t:SS->Option Out:=(z3m (dIf (z0u (d2 ixD (d2 ixD (z0d 0) (dC (.int 0))) (z0d 1))) (dC (.int 1)) (d1 x3f (dC (.int 1)))))
def y0Y:List D->Option D:=z1y 2 0 y3t
def z1V:SS->Option Out:=(z3m (dIf (z0Q (d2 eqD (d2 z4y (z0d 0) (dC (.int 2))) (dC (.int 0)))) (dC (.int 1)) (d1 x3f (dC (.int 1)))))
def z0K:List D->Option D:=z1y 1 0 z1V
def z7q:SS->Option Out:=(z7z (z0k z7R [(z0d 0),(mkL (z0X (z1L (z0k z2g [(z0d 0)])) (z0Q (d2 ninD (z0d 2) (z0d 1))) (z0d 2)))]))
def z1g:List D->Option D:=z1y 2 0 z7q
def z1U(mR:List D->Option D):SS->Option Out:=(z0V (ifO (z0Q (d2 eqD (z0k z2g [(z0d 0)]) (dC (.int 0)))) (z3m (dC (.int 1))) z1T)
 (z0V (z5Z 1 (dC (.int 0)))
 (z0V (y0a 2 (x0T (dC (.int 1)) (z0k z2g [(z0d 0)])) (z5Z 1 (d2 y3L (z0d 1) (d2 mulB (d2 mulB (z0k z0K [(d2 x2z (z0d 2) (dC (.int 1)))]) (z0k y0Y [(z0d 0),(z0d 2)])) (z0k mR [(z0k z1g [(z0d 0),(mkL (z0m [(dC (.int 0)),(z0d 2)]))])])))))
 (z3m (z0d 1)))))
def z1i:Nat->List D->Option D
 |0=>z1y 1 2 fun _=>none
 |n+1=>z1y 1 2 (z1U (z1i n))
def z1s:List D->Option D:=z1i 12
def z9c:SS->Option Out:=(z7z (z0B (z0X (z1L (z0k z2g [(z0d 0)])) z4C (d2 mulB (z0k z0K [(z0d 1)]) (z0k z1s [(z0k z1g [(z0d 0),(mkL (z0m [(z0d 1)]))])])))))
def z6m:List D->Option D:=z1y 1 0 z9c
def z4n:SS->Option Out:=(z3m (z0k sumF [(mkL (z0X (z5W (z0d 1)) z4C (d2 ixD (z0d 0) (z0d 2))))]))
def z2b:List D->Option D:=z1y 2 0 z4n
def y1S:SS->Option Out:=(z3m (d2 x2z (z0k z2b [(z0d 1),(z0k z0D [(z0d 0),(z0d 2)])]) (z0k z2b [(z0d 1),(z0k z2k [(z0d 0),(z0d 2)])])))
def z6O:List D->Option D:=z1y 3 0 y1S
def z2i:SS->Option Out:=(z0V (ifO (z0Q (d2 gtI (d2 ixD (z0d 1) (z0d 2)) (dC (.int 0)))) (z3m (d2 eqD (z0k z6O [(z0d 0),(z0d 1),(z0d 2)]) (dC (.int 0)))) z1T)
 (z3m (d2 ltI (z0k z6O [(z0d 0),(z0d 1),(z0d 2)]) (dC (.int 0)))))
def z1K:List D->Option D:=z1y 3 0 z2i
def z6J:SS->Option Out:=(z0V (ifO (dOrT (z0Q (d2 ltI (z0k y7w [(z0d 1)]) (dC (.int 0)))) (z0Q (d2 eqD (z0k y9Z [(z0d 1)]) (dC (.int 0))))) (z3m (dC (.bl false))) z1T)
 (z3m (z0k allF [(mkL (z0X (z1L (z0k z2g [(z0d 0)])) z4C (z0k z1K [(z0d 0),(z0d 1),(z0d 2)])))])))
def z4N:List D->Option D:=z1y 2 0 z6J
def z4u:SS->Option Out:=(z0V (y1Q 1 (mkL (z0m [(z0B (z0m []))])))
 (z0V (y0a 2 (z5W (z0d 0)) (y1Q 1 (mkL (x0i (z0d 1) (mkL (z0X (z5W (z0d 1)) z4C (z0B (x0i (z0d 3) (mkL (z0m [(z0d 2)]))))))))))
 (retS (mkL (z0X (z5W (z0d 1)) (z0Q (d2 eqD (d2 z4y (z0k z2g [(z0d 3)]) (dC (.int 2))) (dC (.int 1)))) (z0d 3))))))
def z2Z:List D->Option D:=z1y 1 2 z4u
def z1N:SS->Option Out:=(z0V (z3H (z0Q (d2 gtI (z0d 1) (dC (.int 0)))) (z0V (z5Z 2 (d2 z4y (z0d 0) (z0d 1)))
 (z0V (z5Z 0 (z0d 1))
 (z5Z 1 (z0d 2)))) 100)
 (z3m (z0d 0)))
def z1k:List D->Option D:=z1y 2 1 z1N
def z1O:SS->Option Out:=(z0V (z5Z 1 (dC (.int 0)))
 (z0V (y0a 2 (z5W (z0d 0)) (z5Z 1 (z0k z1k [(z0d 1),(z0k absF [(z0d 2)])])))
 (z3m (z0d 1))))
def z1l:List D->Option D:=z1y 1 2 z1O
def z3C:SS->Option Out:=(z0V (y1Q 2 (z0k z6m [(z0k z7R [(z0d 0),(z0d 1)])]))
 (z0V (z5Z 3 (z0k z1l [(z0d 2)]))
 (z0V (ifO (z0Q (d2 ltI (d2 ixD (z0d 2) (dC (.int 0))) (dC (.int 0)))) (z5Z 3 (d1 x3f (z0d 3))) z1T)
 (z0V (y1B 4 (z0B (dRep (mkL (z0m [(dC (.int 0))])) (z0k z2g [(z0d 0)]))))
 (z0V (x1P 5 6 (dZip (z0d 1) (z0d 2)) (st0 4 (z0d 5) (d2 divN (z0d 6) (z0d 3))))
 (x0O 4))))))
def z2o:List D->Option D:=z1y 2 5 z3C
def z5q:SS->Option Out:=(y0a 1 (z5W (z0k z2Z [(z0k z1o [(z0d 0)])])) (z0V (y1B 2 (z0k z2o [(z0d 0),(z0d 1)]))
 (ifO (z0u (z0k z4N [(z0d 0),(z0d 2)])) (x0O 2) z1T)))
def z2C:List D->Option D:=z1y 1 2 z5q
def z2V:SS->Option Out:=(z3m (mkT (z0m [(d2 inD (z0d 1) (z0k z2H [(z0d 0)])),(d2 inD (z0d 1) (z0k z1o [(z0d 0)])),(d2 inD (z0d 1) (z0k z4Q [(z0d 0)])),(d2 gtI (d2 ixD (z0k z2C [(z0d 0)]) (z0d 1)) (dC (.int 0)))])))
def z1v:List D->Option D:=z1y 2 0 z2V
def z2t:SS->Option Out:=(z0V (z5Z 3 (d2 ixD (z0d 0) (z0d 1)))
 (altO (z7z (z0B (x0i (mkL (x0i (mkL (x1B (z0d 0) z3E (z7l (z0d 1)))) (mkL (z0m [(mkT (z0m [(d2 ixD (z0d 3) (dC (.int 0))),(z7h z1h [(d2 ixD (z0d 3) (dC (.int 1))),(z0d 2)])]))])))) (mkL (x1B (z0d 0) (z7l (d2 y3L (z0d 1) (dC (.int 1)))) z3E))))) (excO (exR (mkL (x1B (z0d 0) z3E (z7l (z0d 1)))) (exR (d2 ixD (z0d 3) (dC (.int 0))) (z6z z1h [(d2 ixD (z0d 3) (dC (.int 1))),(z0d 2)]))))))
def z1D:List D->Option XO:=y4p 3 1 z2t
def z3w:SS->Option Out:=(z0V (y1B 2 (z0B (z4J (z1L (z0d 1)))))
 (z0V (y1B 3 (z0B (z0m [])))
 (z0V (z3H (z0Q (d2 gtI (z0k z2g [(z0d 2)]) (dC (.int 0)))) (z0V (z6C 3 2 (d2 z4y (z0d 0) (z0k z2g [(z0d 2)])))
 (z5Z 0 (d2 y5P (z0d 0) (d2 y3L (z0k z2g [(z0d 2)]) (dC (.int 1)))))) 100)
 (z3m (z0k tupF [(z0d 3)])))))
def z2j:List D->Option D:=z1y 2 2 z3w
def z3z:SS->Option Out:=(z0V (y1B 2 (z0B (z0m [])))
 (z0V (z5Z 3 (dC (.int 0)))
 (z0V (y0a 4 (z5W (mkL (x1B (z0d 0) (z7l (dC (.int 1))) (z7l (dC (.int 40)))))) (z0V (z5Z 5 (d2 z4y (z0d 4) (d2 x1w (dC (.int 10)) (dC (.int 40)))))
 (z0V (m0 2 appF [(mkT (z0m [(d2 y3L (dC (.int 1)) (d2 z4y (d2 y5P (z0d 5) (dC (.int 7))) (d2 ixD (mkL (z0m [(dC (.int 3)),(d2 x1w (dC (.int 10)) (dC (.int 30)))])) (d2 z4y (z0d 5) (dC (.int 2)))))),(z0k z2j [(d2 y5P (z0d 5) (dC (.int 21))),(z0d 1)])]))])
 (z5Z 3 (d2 y3L (z0d 3) (d2 ixD (d2 ixD (z0d 2) (d1 x3f (dC (.int 1)))) (dC (.int 0))))))))
 (z0V (ifO (z0Q (d2 eqD (d2 z4y (z0d 3) (dC (.int 2))) (dC (.int 0)))) (m0 2 appF [(mkT (z0m [(dC (.int 1)),(mkT (z4J (z1L (z0d 1))))]))]) z1T)
 (x0O 2)))))
def z2p:List D->Option D:=z1y 2 4 z3z
def z4m:SS->Option Out:=(z0V (y0a 3 (z1L (z0k z2g [(z0d 0)])) (y0a 4 (z1L (z0k z2g [(z0d 0)])) (ifO (z6u (z0Q (d2 neD (z0d 3) (z0d 2))) (z6u (z0Q (d2 neD (z0d 4) (z0d 2))) (z0Q (d2 neD (d2 ixD (d2 ixD (z0d 0) (z0d 3)) (z0d 4)) (d2 ixD (d2 ixD (z0d 1) (z0d 3)) (z0d 4)))))) (z3m (dC (.bl false))) z1T)))
 (z3m (d2 eqD (z0k z2g [(mkL (z0X (z1L (z0k z2g [(z0d 0)])) (z6u (z0u (d2 ixD (d2 ixD (z0d 0) (z0d 2)) (z0d 5))) (z4h (z0u (d2 ixD (d2 ixD (z0d 1) (z0d 2)) (z0d 5))))) (z0d 5)))]) (dC (.int 0)))))
def z2R:List D->Option D:=z1y 3 2 z4m
def g_law:SS->Option Out:=(z0V (z5Z 1 (dC (.int 1)))
 (z0V (z5Z 2 (dC (.int 0)))
 (z0V (ifO (z0Q (d2 gtI (z0k z2g [(z0d 0)]) (dC (.int 0)))) (z0V (z5Z 2 (d2 z4y (d2 ixD (z0d 0) (dC (.int 0))) (d2 x1w (dC (.int 10)) (dC (.int 12)))))
 (z5Z 1 (d2 y3L (dC (.int 1)) (d2 z4y (z0d 2) (dC (.int 6)))))) z1T)
 (z0V (y1Q 3 (z0k z2p [(z0d 0),(z0d 1)]))
 (z0V (z5Z 4 (d2 z4y (d2 y5P (z0d 2) (dC (.int 6))) (z0d 1)))
 (z0V (y1Q 5 (z7h z2E [(z0d 3),(z0d 1)]))
 (z0V (y1Q 6 (z0k z1v [(z0d 5),(z0d 4)]))
 (z0V (y0a 7 (z1L (dC (.int 12))) (z0V (z5Z 8 (d2 z4y (d2 y3L (d2 y3L (d2 y5P (z0d 2) (dC (.int 36))) (d2 x2O (d2 x2O (dC (.int 5)) (z0d 7)) (z0d 7))) (d2 x2O (dC (.int 7)) (z0d 7))) (z0k z2g [(z0d 3)])))
 (ifO (z0Q (d2 neD (d2 ixD (d2 ixD (d2 ixD (z0d 3) (z0d 8)) (dC (.int 1))) (dC (.int 0))) (z0d 4))) (z0V (y1Q 3 (z7h z1D [(z0d 3),(z0d 8),(z0d 4)]))
 (z0V (y1Q 9 (z7h z2E [(z0d 3),(z0d 1)]))
 (z0V (y1Q 10 (z0k z1v [(z0d 9),(z0d 4)]))
 (z0V (ifO (z4h (z0u (z0k z2R [(z0d 5),(z0d 9),(z0d 4)]))) (z3m (dC (.bl false))) z1T)
 (z0V (ifO (z0Q (d2 gtI (z0k z2g [(mkL (z0X (z1L (dC (.int 4))) (z6u (z0u (d2 ixD (z0d 6) (z0d 11))) (z4h (z0u (d2 ixD (z0d 10) (z0d 11))))) (z0d 11)))]) (dC (.int 0)))) (z3m (dC (.bl false))) z1T)
 (z0V (y1Q 5 (z0d 9))
 (y1Q 6 (z0d 10)))))))) z1T)))
 (z3m (dC (.bl true)))))))))))
def y5s:List D->Option D:=z1y 1 10 g_law
structure Txt(mg:Str->Option Value):Prop where
 jc:mg "all" = none
 gM:mg "enumerate" = none
 fx:mg "range" = none
 fy:mg "len" = none
 jL:mg "any" = none
 jp:mg "sorted" = none
 jM:mg "int" = none
 ia:mg "isinstance" = none
 jF:mg "bool" = none
 jq:mg "sum" = none
 jN:mg "min" = none
 jO:mg "max" = none
 jP:mg "abs" = none
 jQ:mg "zip" = none
 ja:mg "tuple" = none
 jG:mg "list" = none
structure Cls(K:aa)(mg:Str->Option Value)(base:Heap)(cl:Nat->Value):Prop where
 i8:∃C,cl 1 = .ref C∧OwnCls "BadBallot" C bmVE "ValueError.__new__" mg base∧aE K mainGlobals "BadBallot" = some (some (.ref C))∧True
 jH:∃C,cl 2 = .ref C∧OwnCls "Even" C bmVE "ValueError.__new__" mg base∧aE K mainGlobals "Even" = some (some (.ref C))∧True
 iT:∃C,cl 3 = .ref C∧OwnCls "NothingLeft" C bmVE "ValueError.__new__" mg base∧aE K mainGlobals "NothingLeft" = some (some (.ref C))∧True
section
variable{P:dw}{w:eX}{K:aa}{mg:Str->Option Value}{base:Heap}{cl:Nat->Value}
theorem y7S:FnScope x1S y3s (z0e z9x):=z0x
theorem y9H(B:FnB K mg "picked" z9x y3s)(T:Txt mg):DefOk P w K mg base 1 "picked" (spN K z4L):=
 B.on fun F hm hb=>z2s (k:=0) (g:=z9y) F hm hb y7S rfl rfl fun cdv A outer s H E hr=>
  (z0j (z1z (z6D (z0Y (N':=["row", "things", "other"])  rfl ⟨rfl,rfl,rfl,rfl,rfl⟩ (n:=2) rfl (z0I (z0f 1 (pv 1))) (fun _ _ _ _ _=>z0l (i:=2) nd0 rfl (Or.inl rfl)) (fun _ _ _ _ _=>z0C) (fun _ _ _ _ _=>(z0G (z0f 0 (pv 0)) (z0f 2 (pv 2))))))))
theorem jv:FnScope jC x2v (z0e y6i):=z0x
theorem jw(B:FnB K mg "part" y6i x2v)(T:Txt mg)(ip:DefOk P w K mg base 1 "picked" (spN K z4L)):DefOk P w K mg base 2 "part" (spN K z7R):=
 B.on fun F hm hb=>z2s (k:=1) (g:=y8T) F hm hb jv rfl rfl fun cdv A outer s H E hr=>
  (z0j (z1z (z5r (N':=["table", "things", "one"])  rfl ⟨rfl,rfl,rfl,rfl,rfl⟩ (n:=2) rfl (z0I (z0f 1 (pv 1))) (fun _ _ _ _ _=>z0l (i:=2) nd1 rfl (Or.inl rfl)) (fun _ _ _ _ _=>z0C) (fun _ _ _ _ _=>(z0g ip (hr.mono (by decide)) rfl (z0a (z0G (z0f 0 (pv 0)) (z0f 2 (pv 2))) (z0a (z0f 1 (pv 1)) z0b)))))))
theorem y7r:FnScope x1R y4E (z0e z9v):=z0x
theorem y7k(B:FnB K mg "column" z9v y4E)(T:Txt mg):DefOk P w K mg base 1 "column" (spN K z6i):=
 B.on fun F hm hb=>z2s (k:=0) (g:=z8R) F hm hb y7r rfl rfl fun cdv A outer s H E hr=>
  (z0j (z1z (z6D (z0Y (N':=["table", "one", "row"])  rfl ⟨rfl,rfl,rfl,rfl,rfl⟩ (n:=2) rfl (z0I (z0f 0 (pv 0))) (fun _ _ _ _ _=>z0l (i:=2) nd2 rfl (Or.inl rfl)) (fun _ _ _ _ _=>z0C) (fun _ _ _ _ _=>(z0G (z0f 2 (pv 2)) (z0f 1 (pv 1))))))))
theorem y0N:FnScope y2E z7a (z0e z4e):=z0x
theorem y1u(B:FnB K mg "beats_all" z4e z7a)(T:Txt mg):DefOk P w K mg base 1 "beats_all" (spN K z0T):=
 B.on fun F hm hb=>z2s (k:=0) (g:=z4j) F hm hb y0N rfl rfl fun cdv A outer s H E hr=>
  (z0j (z0w (y8G rfl rfl T.jc (z5Y (z0Y (N':=["table", "one", "things", "other"])  rfl ⟨rfl,rfl,rfl,rfl,rfl⟩ (n:=3) rfl (z0I (z0f 2 (pv 2))) (fun _ _ _ _ _=>z0l (i:=3) nd3 rfl (Or.inl rfl)) (fun _ _ _ _ _=>z0C) (fun _ _ _ _ _=>(z0G (z0G (z0f 0 (pv 0)) (z0f 1 (pv 1))) (z0f 3 (pv 3)))))))))
theorem z7G:FnScope z8D z4F (z0e z3c):=z0x
theorem z7P(B:FnB K mg "places_true" z3c z4F)(T:Txt mg):DefOk P w K mg base 1 "places_true" (spN K z1d):=
 B.on fun F hm hb=>z2s (k:=0) (g:=z2P) F hm hb z7G rfl rfl fun cdv A outer s H E hr=>
  (z0j (z1z (z6D (z9X (N':=["marks", "place", "mark"])  rfl ⟨rfl,rfl,rfl,rfl,rfl⟩ (n:=1) rfl (z9t rfl T.gM (z0f 0 (pv 0))) (fun _ _ _ _ _=>y6w rfl (z0l (i:=1) nd4 rfl (Or.inl rfl)) (z0l (i:=2) nd4 rfl (Or.inl rfl))) (fun _ _ _ _ _=>z0N (z0s (z0f 2 (pv 2)))) (fun _ _ _ _ _=>(z0f 1 (pv 1)))))))
theorem y0C:FnScope y2w z6K (z0e z4v):=z0x
theorem y0i(B:FnB K mg "beaten_by" z4v z6K)(T:Txt mg)(G_places_true:DefOk P w K mg base 1 "places_true" (spN K z1d)):DefOk P w K mg base 2 "beaten_by" (spN K z0D):=
 B.on fun F hm hb=>z2s (k:=1) (g:=z4l) F hm hb y0C rfl rfl fun cdv A outer s H E hr=>
  (z0j (z1z (z0g G_places_true (hr.mono (by decide)) rfl (z0a (z0G (z0f 0 (pv 0)) (z0f 1 (pv 1))) z0b))))
theorem z8S:FnScope y0A z5P (z0e z3A):=z0x
theorem z8V(B:FnB K mg "beaters_of" z3A z5P)(T:Txt mg)(iq:DefOk P w K mg base 1 "column" (spN K z6i))(G_places_true:DefOk P w K mg base 1 "places_true" (spN K z1d)):DefOk P w K mg base 2 "beaters_of" (spN K z2k):=
 B.on fun F hm hb=>z2s (k:=1) (g:=z3P) F hm hb z8S rfl rfl fun cdv A outer s H E hr=>
  (z0j (z1z (z0g G_places_true (hr.mono (by decide)) rfl (z0a (z1r (z0g iq (hr.mono (by decide)) rfl (z0a (z0f 0 (pv 0)) (z0a (z0f 1 (pv 1)) z0b)))) z0b))))
theorem y8Y:FnScope x1i y3k (z0e z9f):=z0x
theorem y9W(B:FnB K mg "covers" z9f y3k)(T:Txt mg)(G_beats_all:DefOk P w K mg base 1 "beats_all" (spN K z0T))(G_beaten_by:DefOk P w K mg base 2 "beaten_by" (spN K z0D)):DefOk P w K mg base 3 "covers" (spN K z6p):=
 B.on fun F hm hb=>z2s (k:=2) (g:=z9k) F hm hb y8Y rfl rfl fun cdv A outer s H E hr=>
  (z0j (z0w (y0I (z0G (z0G (z0f 0 (pv 0)) (z0f 1 (pv 1))) (z0f 2 (pv 2))) (y3h (z1r (z0g G_beats_all (hr.mono (by decide)) rfl (z0a (z0f 0 (pv 0)) (z0a (z0f 1 (pv 1)) (z0a (z1r (z0g G_beaten_by (hr.mono (by decide)) rfl (z0a (z0f 0 (pv 0)) (z0a (z0f 2 (pv 2)) z0b)))) z0b)))))))))
theorem z9d:FnScope y0l z5S (z0e z3u):=z0x
theorem z8r(B:FnB K mg "is_covered" z3u z5S)(T:Txt mg)(ir:DefOk P w K mg base 3 "covers" (spN K z6p)):DefOk P w K mg base 4 "is_covered" (spN K z2q):=
 B.on fun F hm hb=>z2s (k:=3) (g:=z3O) F hm hb z9d rfl rfl fun cdv A outer s H E hr=>
  (z0j (z0w (pd_any rfl rfl T.jL (z1r (z5r (N':=["table", "one", "other"])  rfl ⟨rfl,rfl,rfl,rfl,rfl⟩ (n:=2) rfl (z1m rfl T.fx (z0O rfl T.fy (z0f 0 (pv 0)))) (fun _ _ _ _ _=>z0l (i:=2) nd5 rfl (Or.inl rfl)) (fun _ _ _ _ _=>z0C) (fun _ _ _ _ _=>(z0g ir (hr.mono (by decide)) rfl (z0a (z0f 0 (pv 0)) (z0a (z0f 2 (pv 2)) (z0a (z0f 1 (pv 1)) z0b))))))))))
theorem y0b:FnScope y2G z7n (z0e z4o):=z0x
theorem y0o(B:FnB K mg "uncovered" z4o z7n)(T:Txt mg)(gr:DefOk P w K mg base 4 "is_covered" (spN K z2q)):DefOk P w K mg base 5 "uncovered" (spN K z1o):=
 B.on fun F hm hb=>z2s (k:=4) (g:=z4p) F hm hb y0b rfl rfl fun cdv A outer s H E hr=>
  (z0j (z1z (z6D (z0Y (N':=["table", "one"])  rfl ⟨rfl,rfl,rfl,rfl,rfl⟩ (n:=1) rfl (z1m rfl T.fx (z0O rfl T.fy (z0f 0 (pv 0)))) (fun _ _ _ _ _=>z0l (i:=1) nd6 rfl (Or.inl rfl)) (fun _ _ _ _ _=>z0N (z4t (z0s (z1r (z0g gr (hr.mono (by decide)) rfl (z0a (z0f 0 (pv 0)) (z0a (z0f 1 (pv 1)) z0b))))))) (fun _ _ _ _ _=>(z0f 1 (pv 1)))))))
theorem y2s:FnScope y5w z8f (z0e z5v):=z0x
theorem y1Y(B:FnB K mg "is_chain" z5v z8f)(T:Txt mg)(G_beats_all:DefOk P w K mg base 1 "beats_all" (spN K z0T)):DefOk P w K mg base 2 "is_chain" (spN K z3X):=
 B.on fun F hm hb=>z2s (k:=1) (g:=z3R) F hm hb y2s rfl rfl fun cdv A outer s H E hr=>
  (z0h (z8o (z7H hr.units (z0O rfl T.fy (z0f 1 (pv 1))) z0i) (z0j (z0w z7A)) z1q)
   (z0j (z0w (y8G rfl rfl T.jc (z5Y (z9X (N':=["table", "things", "place", "one"])  rfl ⟨rfl,rfl,rfl,rfl,rfl⟩ (n:=2) rfl (z9t rfl T.gM (z0f 1 (pv 1))) (fun _ _ _ _ _=>y6w rfl (z0l (i:=2) nd7 rfl (Or.inl rfl)) (z0l (i:=3) nd7 rfl (Or.inl rfl))) (fun _ _ _ _ _=>z0C) (fun _ _ _ _ _=>(z1r (z0g G_beats_all (hr.mono (by decide)) rfl (z0a (z0f 0 (pv 0)) (z0a (z0f 3 (pv 3)) (z0a (z5Y (z3U (z0f 1 (pv 1)) (z1S (z3B (z0f 2 (pv 2)) z0i)) z3h)) z0b))))))))))))
theorem y5m:FnScope y9p y0d (z0e z6Z):=z0x
theorem y4W(B:FnB K mg "beaters" z6Z y0d)(T:Txt mg)(G_beats_all:DefOk P w K mg base 1 "beats_all" (spN K z0T)):DefOk P w K mg base 2 "beaters" (spN K z2d):=
 B.on fun F hm hb=>z2s (k:=1) (g:=z6y) F hm hb y5m rfl rfl fun cdv A outer s H E hr=>
  (z0j (z1z (z6D (z0Y (N':=["table", "things", "one"])  rfl ⟨rfl,rfl,rfl,rfl,rfl⟩ (n:=2) rfl (z1m rfl T.fx (z0O rfl T.fy (z0f 0 (pv 0)))) (fun _ _ _ _ _=>z0l (i:=2) nd1 rfl (Or.inl rfl)) (fun _ _ _ _ _=>z0N (z0s (z1r (z0g G_beats_all (hr.mono (by decide)) rfl (z0a (z0f 0 (pv 0)) (z0a (z0f 2 (pv 2)) (z0a (z0f 1 (pv 1)) z0b))))))) (fun _ _ _ _ _=>(z0f 2 (pv 2)))))))
theorem y8U:FnScope x1q y4d (z0e z9T):=z0x
theorem y6a(B:FnB K mg "stands" z9T y4d)(T:Txt mg)(g5:DefOk P w K mg base 2 "is_chain" (spN K z3X))(fW:DefOk P w K mg base 2 "beaters" (spN K z2d)):DefOk P w K mg base 3 "stands" (spN K z4V):=
 B.on fun F hm hb=>z2s (k:=2) (g:=z8W) F hm hb y8U rfl rfl fun cdv A outer s H E hr=>
  (z0j (z0w (y0I (z1r (z0g g5 (hr.mono (by decide)) rfl (z0a (z0f 0 (pv 0)) (z0a (z0f 1 (pv 1)) z0b)))) (y3h (pd_eq hr.units (z0O rfl T.fy (z1r (z0g fW (hr.mono (by decide)) rfl (z0a (z0f 0 (pv 0)) (z0a (z0f 1 (pv 1)) z0b))))) z0i)))))
theorem fH:FnScope z7M z2r (z0e z1G):=z0x
theorem z3r(B:FnB K mg "ended_chains" z1G z2r)(T:Txt mg):∀n:Nat,DefOk P w K mg base (1+n) "ended_chains" (spM2 K (z1a n))
 |0=>B.on fun F hm hb=>defM2 (k:=0) (g:=fun _=>none) F hm hb fH rfl rfl fun cdv A outer s H H0 E hr=>y3r
 |n+1=>by
  have G_ended_chains:=z3r B T n
  exact B.on fun F hm hb=>defM2 (k:=1+n) (g:=z1I (z1a n)) F hm hb fH rfl rfl fun cdv A outer s H H0 E hr=>
  (z0h (z8o (z4t (z0s (z0f 2 (pv 2)))) (z0j (s_ret1 (pv 1))) z1q)
   (z0h (z2L (z0H (i:=3) fH.nd rfl (Or.inl rfl) (z6D (z1w z0b (cX rfl)))))
   (z0h (z4T PassesOwn.never rfl (z0I (z0f 2 (pv 2))) (z0l (i:=4) fH.nd rfl (Or.inr rfl)) (z0j (y8Q (pv 3) (y1G G_ended_chains (hr.mono (by omega)) rfl (z0f 0 (pv 0)) (z6D (y1J (z0f 1 (pv 1)) (z5Y (z1w (z0a (z0f 4 (pv 4)) z0b) (cX rfl))))) (z0a (z5Y (z0Y (N':=["table", "chain", "further", "chains", "thing", "other"])  rfl ⟨rfl,rfl,rfl,rfl,rfl⟩ (n:=5) rfl (z0I (z0f 2 (pv 2))) (fun _ _ _ _ _=>z0l (i:=5) nd8 rfl (Or.inl rfl)) (fun _ _ _ _ _=>z0N (z0s (z0G (z0G (z0f 0 (pv 0)) (z0f 4 (pv 4))) (z0f 5 (pv 5))))) (fun _ _ _ _ _=>(z0f 5 (pv 5))))) z0b)))))
   (z0j (y1x (pv 3))))))
theorem z7m(B:FnB K mg "ended_chains" z1G z2r)(T:Txt mg):DefOk P w K mg base 13 "ended_chains" (spM2 K z1E):=z3r B T 12
theorem fZ:FnScope z9F z4O (z0e z2U):=z0x
theorem z7I(B:FnB K mg "crown_paper" z2U z4O)(T:Txt mg)(G_beaten_by:DefOk P w K mg base 2 "beaten_by" (spN K z0D))(fW:DefOk P w K mg base 2 "beaters" (spN K z2d))(iu:DefOk P w K mg base 3 "stands" (spN K z4V))(G_ended_chains:DefOk P w K mg base 13 "ended_chains" (spM2 K z1E)):DefOk P w K mg base 14 "crown_paper" (spR K z1t):=
 B.on fun F hm hb=>defR (k:=13) (g:=z3e) F hm hb fZ rfl rfl fun cdv A outer s H E B hr=>
  (z0h (z3p (z0H (i:=2) fZ.nd rfl (Or.inl rfl) (z1r (y1G G_ended_chains (hr.mono (by decide)) rfl (z0f 0 (pv 0)) (z6D (z1w (z0a (z0f 1 (pv 1)) z0b))) (z0a (z1r (z0g G_beaten_by (hr.mono (by decide)) rfl (z0a (z0f 0 (pv 0)) (z0a (z0f 1 (pv 1)) z0b)))) z0b)))))
   (z0h (z4T PassesOwn.never rfl (z0I (z0f 2 (pv 2))) (z0l (i:=3) fZ.nd rfl (Or.inl rfl)) (z0j (z8o (z0s (z1r (z0g iu (hr.mono (by decide)) rfl (z0a (z0f 0 (pv 0)) (z0a (z0f 3 (pv 3)) z0b))))) (z0j (y5X (z5K (z0a z8a (z0a (z0f 3 (pv 3)) z0b))))) z1q)))
   (z0j (y5X (z5K (z0a z8a (z0a (z5Y (z0Y (N':=["table", "thing", "chains", "3", "chain"])  rfl ⟨rfl,rfl,rfl,rfl,rfl⟩ (n:=4) rfl (z0I (z0f 2 (pv 2))) (fun _ _ _ _ _=>z0l (i:=4) nd9 rfl (Or.inl rfl)) (fun _ _ _ _ _=>z0C) (fun _ _ _ _ _=>(z5K (z0a (z0f 4 (pv 4)) (z0a (z0G (z1r (z0g fW (hr.mono (by decide)) rfl (z0a (z0f 0 (pv 0)) (z0a (z0f 4 (pv 4)) z0b)))) z0i) z0b)))))) z0b)))))))
theorem y5S:FnScope x1W y4I (z0e z8F):=z0x
theorem y8C(B:FnB K mg "crowns" z8F y4I)(T:Txt mg)(ge:DefOk P w K mg base 14 "crown_paper" (spR K z1t)):DefOk P w K mg base 15 "crowns" (spN K z4Q):=
 B.on fun F hm hb=>z2s (k:=14) (g:=z8G) F hm hb y5S rfl rfl fun cdv A outer s H E hr=>
  (z0j (z1z (z6D (z0Y (N':=["table", "thing"])  rfl ⟨rfl,rfl,rfl,rfl,rfl⟩ (n:=1) rfl (z1m rfl T.fx (z0O rfl T.fy (z0f 0 (pv 0)))) (fun _ _ _ _ _=>z0l (i:=1) nd10 rfl (Or.inl rfl)) (fun _ _ _ _ _=>z0N (z7H hr.units (z0G (y3g ge (hr.mono (by decide)) rfl (z0a (z0f 0 (pv 0)) (z0a (z0f 1 (pv 1)) z0b))) z0i) z8a)) (fun _ _ _ _ _=>(z0f 1 (pv 1)))))))
theorem fz:FnScope y1k z5Q (z0e z3y):=z0x
theorem z9u(B:FnB K mg "steps_from" z3y z5Q)(T:Txt mg)(G_beaten_by:DefOk P w K mg base 2 "beaten_by" (spN K z0D)):DefOk P w K mg base 3 "steps_from" (spN K z2n):=
 B.on fun F hm hb=>z2s (k:=2) (g:=z3L) F hm hb fz rfl rfl fun cdv A outer s H E hr=>
  (z0h (z2L (z0H (i:=2) fz.nd rfl (Or.inl rfl) (x2c (z0f 1 (pv 1)) (z0f 1 (pv 1)))))
   (z0h (z2L (z0H (i:=3) fz.nd rfl (Or.inl rfl) (z6D (z1w (z0a (z0f 1 (pv 1)) z0b)))))
   (z0h (y2Q 100 PassesOwn.never (z0s (z0f 3 (pv 3))) (z0h (z2L (z0H (i:=4) fz.nd rfl (Or.inl rfl) (z6D (z1w z0b))))
   (z0h (s_frz 3 (z4T PassesOwn.never rfl (z0I (z0f 3 (pv 3))) (z0l (i:=5) fz.nd rfl (Or.inl rfl)) (z0j (z4T PassesOwn.never rfl (z0I (z1r (z0g G_beaten_by (hr.mono (by decide)) rfl (z0a (z0f 0 (pv 0)) (z0a (z0f 5 (pv 5)) z0b))))) (z0l (i:=6) fz.nd rfl (Or.inl rfl)) (z0j (z8o (pt_dnin hr.units (z0f 6 (pv 6)) (z0f 2 (pv 2))) (z0h (x2A hr.units (pv 2) (z0f 6 (pv 6)) (z0f 5 (pv 5)))
   (z0j (s_m0 PySem.F.slot_list_append PySem.F.type_list_append z3Q z7x (pv 4) (z0a (z0f 6 (pv 6)) z0b)))) z1q))))))
   (z0j (s_mov (by decide) (z0H (i:=3) fz.nd rfl (Or.inl rfl) (pv 4)))))))
   (z0j (y1x (pv 2))))))
theorem y5q:FnScope y6E y1A (z0e z6t):=z0x
theorem y5A(B:FnB K mg "reached" z6t y1A)(T:Txt mg)(gu:DefOk P w K mg base 3 "steps_from" (spN K z2n)):DefOk P w K mg base 4 "reached" (spN K z3F):=
 B.on fun F hm hb=>z2s (k:=3) (g:=z6w) F hm hb y5q rfl rfl fun cdv A outer s H E hr=>
  (z0j (z1z (z6D (y5t rfl rfl T.jp (z1r (z0g gu (hr.mono (by decide)) rfl (z0a (z0f 0 (pv 0)) (z0a (z0f 1 (pv 1)) z0b))))))))
theorem z7B:FnScope z9h z4H (z0e z2W):=z0x
theorem z7J(B:FnB K mg "places_with" z2W z4H)(T:Txt mg):DefOk P w K mg base 1 "places_with" (spN K z1x):=
 B.on fun F hm hb=>z2s (k:=0) (g:=z2S) F hm hb z7B rfl rfl fun cdv A outer s H E hr=>
  (z0j (z1z (z6D (z9X (N':=["counts", "wanted", "place", "count"])  rfl ⟨rfl,rfl,rfl,rfl,rfl⟩ (n:=2) rfl (z9t rfl T.gM (z0f 0 (pv 0))) (fun _ _ _ _ _=>y6w rfl (z0l (i:=2) nd11 rfl (Or.inl rfl)) (z0l (i:=3) nd11 rfl (Or.inl rfl))) (fun _ _ _ _ _=>z0N (z7H hr.units (z0f 3 (pv 3)) (z0f 1 (pv 1)))) (fun _ _ _ _ _=>(z0f 2 (pv 2)))))))
theorem iV:FnScope js y9G (z0e y2q):=z0x
theorem x1f(B:FnB K mg "rings" y2q y9G)(T:Txt mg)(ib:DefOk P w K mg base 4 "reached" (spN K z3F))(gf:DefOk P w K mg base 1 "places_with" (spN K z1x)):DefOk P w K mg base 5 "rings" (spN K z9G):=
 B.on fun F hm hb=>z2s (k:=4) (g:=y2k) F hm hb iV rfl rfl fun cdv A outer s H E hr=>
  (z0h (z2L (z0H (i:=1) iV.nd rfl (Or.inr rfl) (z6D (z0Y (N':=["table", "counts", "one"])  rfl ⟨rfl,rfl,rfl,rfl,rfl⟩ (n:=2) rfl (z1m rfl T.fx (z0O rfl T.fy (z0f 0 (pv 0)))) (fun _ _ _ _ _=>z0l (i:=2) nd13 rfl (Or.inl rfl)) (fun _ _ _ _ _=>z0C) (fun _ _ _ _ _=>(z0O rfl T.fy (z1r (z0g ib (hr.mono (by decide)) rfl (z0a (z0f 0 (pv 0)) (z0a (z0f 2 (pv 2)) z0b))))))))))
   (z0j (z1z (z5r (N':=["table", "counts", "count"])  rfl ⟨rfl,rfl,rfl,rfl,rfl⟩ (n:=2) rfl (pi_rngN rfl T.fx (z0O rfl T.fy (z0f 0 (pv 0))) z0i (y1r z0i)) (fun _ _ _ _ _=>z0l (i:=2) nd12 rfl (Or.inl rfl)) (fun _ _ _ _ _=>z0N (pt_in hr.units (z0f 2 (pv 2)) (z0f 1 (pv 1)))) (fun _ _ _ _ _=>(z0g gf (hr.mono (by decide)) rfl (z0a (z0f 1 (pv 1)) (z0a (z0f 2 (pv 2)) z0b))))))))
theorem y2I:FnScope y4X z7Z (z0e z5E):=z0x
theorem y2m(B:FnB K mg "top_ring" z5E z7Z)(T:Txt mg)(iK:DefOk P w K mg base 5 "rings" (spN K z9G)):DefOk P w K mg base 6 "top_ring" (spN K z2H):=
 B.on fun F hm hb=>z2s (k:=5) (g:=z5t) F hm hb y2I rfl rfl fun cdv A outer s H E hr=>
  (z0j (z1z (pn_ixN (z0g iK (hr.mono (by decide)) rfl (z0a (z0f 0 (pv 0)) z0b)) z0i)))
theorem y2l:FnScope y5o z7Y (z0e z5z):=z0x
theorem y2y(B:FnB K mg "is_thing" z5z z7Y)(T:Txt mg):DefOk P w K mg base 1 "is_thing" (spN K z2F):=
 B.on fun F hm hb=>z2s (k:=0) (g:=z5f) F hm hb y2l rfl rfl fun cdv A outer s H E hr=>
  (z0j (z0w (y0I (x0y rfl T.jM rfl T.ia (z0f 0 (pv 0))) (y0I (pd_not (y7g rfl T.jF rfl T.ia (z0f 0 (pv 0)))) (y3h (x0C op_le op_lt z3V z3V z0i (z0f 0 (pv 0)) (z0f 1 (pv 1))))))))
theorem fI:FnScope z5x z2K (z0e z1A):=z0x
theorem z4K(B:FnB K mg "tells_each_once" z1A z2K)(T:Txt mg)(g6:DefOk P w K mg base 1 "is_thing" (spN K z2F)):DefOk P w K mg base 2 "tells_each_once" (spN K z0P):=
 B.on fun F hm hb=>z2s (k:=1) (g:=z1c) F hm hb fI rfl rfl fun cdv A outer s H E hr=>
  (z0h (z8o (y9z hr.units (z0O rfl T.fy (z0f 0 (pv 0))) (z0f 1 (pv 1))) (z0j (z0w z7A)) z1q)
   (z0h (z2L (z0H (i:=2) fI.nd rfl (Or.inl rfl) pn_dnew))
   (z0h (z4T PassesOwn.never rfl (z0I (z0f 0 (pv 0))) (z0l (i:=3) fI.nd rfl (Or.inl rfl)) (z0h (z8o (PW.pt (x2C (z4t (z0s (z1r (z0g g6 (hr.mono (by decide)) rfl (z0a (z0f 3 (pv 3)) (z0a (z0f 1 (pv 1)) z0b)))))) (y6W (pt_din hr.units (z0f 3 (pv 3)) (z0f 2 (pv 2)))))) (z0j (z0w z7A)) z1q)
   (z0j (x2A hr.units (pv 2) (z0f 3 (pv 3)) z7A))))
   (z0j (z0w z7A)))))
theorem y9d:FnScope x1m y4s (z0e z9S):=z0x
theorem y8c(B:FnB K mg "voices" z9S y4s)(T:Txt mg):DefOk P w K mg base 1 "voices" (spN K z3d):=
 B.on fun F hm hb=>z2s (k:=0) (g:=z8x) F hm hb y9d rfl rfl fun cdv A outer s H E hr=>
  (z0j (z0w (x2L rfl rfl T.jq (z5Y (z0Y (N':=["votes", "ballot"])  rfl ⟨rfl,rfl,rfl,rfl,rfl⟩ (n:=1) rfl (z0I (z0f 0 (pv 0))) (fun _ _ _ _ _=>z0l (i:=1) nd14 rfl (Or.inl rfl)) (fun _ _ _ _ _=>z0C) (fun _ _ _ _ _=>(z0G (z0f 1 (pv 1)) z0i)))))))
theorem iW:FnScope jt y2b (z0e y2h):=z0x
theorem x0Y(B:FnB K mg "asked" y2h y2b)(T:Txt mg)(Z:Cls K mg base cl)(fK:DefOk P w K mg base 2 "tells_each_once" (spN K z0P))(fQ:DefOk P w K mg base 1 "voices" (spN K z3d)):DefX P w K mg base 3 "asked" (spX K cl z9B):=by
 obtain⟨fM,iX,i9,nn_BadBallot,xb_BadBallot⟩:=Z.i8
 obtain⟨ic,jx,jI,nn_Even,xb_Even⟩:=Z.jH
 exact B.on fun F hm hb=>⟨_,_,y2b,hm,F.kp,hb,fnX (k:=2) (g:=z9l) F iW rfl rfl fun cdv A outer s H E hr=>
  (z0h (z4T PassesOwn.leaving rfl (z0I (z0f 0 (pv 0))) (z0l (i:=2) iW.nd rfl (Or.inl rfl)) (z0j (z8o (z4t (z0s (z1r (z0g fK (hr.mono (by decide)) rfl (z0a (z0G (z0f 2 (pv 2)) z0i) (z0a (z0f 1 (pv 1)) z0b)))))) (z0j (z9C (c:=1) rfl rfl i9 (z8w iX) z8a)) z1q)))
   (z0j (z8o (z7H hr.units (z2G (z1r (z0g fQ (hr.mono (by decide)) rfl (z0a (z0f 0 (pv 0)) z0b))) z0i) z0i) (z0j (z9C (c:=2) rfl rfl jI (z8w jx) z8a)) z1q)))⟩
theorem z8J:FnScope y1h z5V (z0e z3t):=z0x
theorem z8L(B:FnB K mg "puts_ahead" z3t z5V)(T:Txt mg):DefOk P w K mg base 1 "puts_ahead" (spN K z0W):=
 B.on fun F hm hb=>z2s (k:=0) (g:=z3J) F hm hb z8J rfl rfl fun cdv A outer s H E hr=>
  (z0j (z0w (pd_lt (z7g (z0f 0 (pv 0)) (z0f 1 (pv 1))) (z7g (z0f 0 (pv 0)) (z0f 2 (pv 2))))))
theorem iL:FnScope jD x3d (z0e y6Q):=z0x
theorem jy(B:FnB K mg "lead" y6Q x3d)(T:Txt mg)(fQ:DefOk P w K mg base 1 "voices" (spN K z3d))(fX:DefOk P w K mg base 1 "puts_ahead" (spN K z0W)):DefOk P w K mg base 2 "lead" (spN K y1I):=
 B.on fun F hm hb=>z2s (k:=1) (g:=y6S) F hm hb iL rfl rfl fun cdv A outer s H E hr=>
  (z0h (z2L (PAsg.imp (x3n (i:=3) (N':=["votes", "one", "other", "ahead", "behind", "ballot"]) iL.nd rfl rfl rfl ⟨rfl,rfl,rfl,rfl,rfl⟩ (n:=5) rfl (z0I (z0f 0 (pv 0))) (fun _ _ _ _ _=>z0l (i:=5) nd15 rfl (Or.inl rfl)) (fun _ _ _ _ _=>z0N (z0s (z1r (z0g fX (hr.mono (by decide)) rfl (z0a (z0G (z0f 5 (pv 5)) z0i) (z0a (z0f 1 (pv 1)) (z0a (z0f 2 (pv 2)) z0b))))))) (fun _ _ _ _ _=>(z0f 5 (pv 5)))) iNF))
   (z0h (z2L (PAsg.imp (x3n (i:=4) (N':=["votes", "one", "other", "ahead", "behind", "ballot"]) iL.nd rfl rfl rfl ⟨rfl,rfl,rfl,rfl,rfl⟩ (n:=5) rfl (z0I (z0f 0 (pv 0))) (fun _ _ _ _ _=>z0l (i:=5) nd15 rfl (Or.inl rfl)) (fun _ _ _ _ _=>z0N (z0s (z1r (z0g fX (hr.mono (by decide)) rfl (z0a (z0G (z0f 5 (pv 5)) z0i) (z0a (z0f 2 (pv 2)) (z0a (z0f 1 (pv 1)) z0b))))))) (fun _ _ _ _ _=>(z0f 5 (pv 5)))) iNF))
   (z0j (z0w (y0X (z1r (z0g fQ (hr.mono (by decide)) rfl (z0a (z0f 3 (pv 3)) z0b))) (z1r (z0g fQ (hr.mono (by decide)) rfl (z0a (z0f 4 (pv 4)) z0b))))))))
theorem gK:FnScope z7L z2y (z0e z2B):=z0x
theorem z7t(B:FnB K mg "raised_order" z2B z2y)(T:Txt mg)(Z:Cls K mg base cl):DefX P w K mg base 1 "raised_order" (spX K cl z1h):=by
 obtain⟨C_NothingLeft,iM,iU,nn_NothingLeft,xb_NothingLeft⟩:=Z.iT
 exact B.on fun F hm hb=>⟨_,_,z2y,hm,F.kp,hb,fnX (k:=0) (g:=z2u) F gK rfl rfl fun cdv A outer s H E hr=>
  (z0h (z1j (z0H (i:=2) gK.nd rfl (Or.inl rfl) (z7g (z0f 0 (pv 0)) (z0f 1 (pv 1)))))
   (z0h (z8o (z7H hr.units (z0f 2 (pv 2)) z0i) (z0j (z9C (c:=3) rfl rfl iU (z8w iM) z8a)) z1q)
   (z0j (z0w (y7J (y7J (y0M (z0f 0 (pv 0)) z3h (z1S (y0X (z0f 2 (pv 2)) z0i))) (z5K (z0a (z0f 1 (pv 1)) (z0a (z0G (z0f 0 (pv 0)) (y0X (z0f 2 (pv 2)) z0i)) z0b)))) (y0M (z0f 0 (pv 0)) (z1S (z3B (z0f 2 (pv 2)) z0i)) z3h))))))⟩
theorem y9s:FnScope x0N y3m (z0e z8u):=z0x
theorem y9O(B:FnB K mg "row_of" z8u y3m)(T:Txt mg)(iY:DefOk P w K mg base 2 "lead" (spN K y1I)):DefOk P w K mg base 3 "row_of" (spN K z6k):=
 B.on fun F hm hb=>z2s (k:=2) (g:=z9L) F hm hb y9s rfl rfl fun cdv A outer s H E hr=>
  (z0j (z1z (z6D (z0Y (N':=["votes", "many", "one", "other"])  rfl ⟨rfl,rfl,rfl,rfl,rfl⟩ (n:=3) rfl (z1m rfl T.fx (z0f 1 (pv 1))) (fun _ _ _ _ _=>z0l (i:=3) nd16 rfl (Or.inl rfl)) (fun _ _ _ _ _=>z0C) (fun _ _ _ _ _=>(y0I (pd_ne hr.units (z0f 2 (pv 2)) (z0f 3 (pv 3))) (y3h (pd_gt (z1r (z0g iY (hr.mono (by decide)) rfl (z0a (z0f 0 (pv 0)) (z0a (z0f 2 (pv 2)) (z0a (z0f 3 (pv 3)) z0b))))) z0i))))))))
theorem y2p:FnScope y5i z5w (z0e z5F):=z0x
theorem y2e(B:FnB K mg "table_of" z5F z5w)(T:Txt mg)(Z:Cls K mg base cl)(iN:DefX P w K mg base 3 "asked" (spX K cl z9B))(iw:DefOk P w K mg base 3 "row_of" (spN K z6k)):DefX P w K mg base 4 "table_of" (spX K cl z2E):=by
 exact B.on fun F hm hb=>⟨_,_,z5w,hm,F.kp,hb,fnX (k:=3) (g:=z5g) F y2p rfl rfl fun cdv A outer s H E hr=>
  (z0h (s_exprX (y2f iN (hr.mono (by decide)) rfl x2N (z0a (z0f 0 (pv 0)) (z0a (z0f 1 (pv 1)) z0b))))
   (z0j (z1z (z5r (N':=["votes", "many", "one"])  rfl ⟨rfl,rfl,rfl,rfl,rfl⟩ (n:=2) rfl (z1m rfl T.fx (z0f 1 (pv 1))) (fun _ _ _ _ _=>z0l (i:=2) nd17 rfl (Or.inl rfl)) (fun _ _ _ _ _=>z0C) (fun _ _ _ _ _=>(z0g iw (hr.mono (by decide)) rfl (z0a (z0f 0 (pv 0)) (z0a (z0f 1 (pv 1)) (z0a (z0f 2 (pv 2)) z0b)))))))))⟩
theorem jz:FnScope jE x3t (z0e y6x):=z0x
theorem jA(B:FnB K mg "sign" y6x x3t)(T:Txt mg):DefOk P w K mg base 1 "sign" (spN K y0Y):=
 B.on fun F hm hb=>z2s (k:=0) (g:=y3t) F hm hb jz rfl rfl fun cdv A outer s H E hr=>
  (z0j (z0w (pd_if (z0s (z0G (z0G (z0f 0 (pv 0)) z0i) (z0f 1 (pv 1)))) z0i (y1r z0i))))
theorem z7C:FnScope z9q z4A (z0e z3k):=z0x
theorem z7E(B:FnB K mg "turned_sign" z3k z4A)(T:Txt mg):DefOk P w K mg base 1 "turned_sign" (spN K z0K):=
 B.on fun F hm hb=>z2s (k:=0) (g:=z1V) F hm hb z7C rfl rfl fun cdv A outer s H E hr=>
  (z0j (z0w (pd_if (z7H hr.units (z2G (z0f 0 (pv 0)) z0i) z0i) z0i (y1r z0i))))
theorem y5D:FnScope y8y y0e (z0e z6R):=z0x
theorem y4U(B:FnB K mg "without" z6R y0e)(T:Txt mg)(gZ:DefOk P w K mg base 2 "part" (spN K z7R)):DefOk P w K mg base 3 "without" (spN K z1g):=
 B.on fun F hm hb=>z2s (k:=2) (g:=z7q) F hm hb y5D rfl rfl fun cdv A outer s H E hr=>
  (z0j (z1z (z0g gZ (hr.mono (by decide)) rfl (z0a (z0f 0 (pv 0)) (z0a (z5Y (z0Y (N':=["table", "things", "thing"])  rfl ⟨rfl,rfl,rfl,rfl,rfl⟩ (n:=2) rfl (z1m rfl T.fx (z0O rfl T.fy (z0f 0 (pv 0)))) (fun _ _ _ _ _=>z0l (i:=2) nd18 rfl (Or.inl rfl)) (fun _ _ _ _ _=>z0N (pt_nin hr.units (z0f 2 (pv 2)) (z0f 1 (pv 1)))) (fun _ _ _ _ _=>(z0f 2 (pv 2))))) z0b)))))
theorem fG:FnScope z9U z3j (z0e z1W):=z0x
theorem z3x(B:FnB K mg "pairing_sum" z1W z3j)(T:Txt mg)(g0:DefOk P w K mg base 1 "sign" (spN K y0Y))(G_turned_sign:DefOk P w K mg base 1 "turned_sign" (spN K z0K))(G_without:DefOk P w K mg base 3 "without" (spN K z1g)):∀n:Nat,DefOk P w K mg base (4+n) "pairing_sum" (spN K (z1i n))
 |0=>B.on fun F hm hb=>z2s (k:=3) (g:=fun _=>none) F hm hb fG rfl rfl fun cdv A outer s H E hr=>y3r
 |n+1=>by
  have G_pairing_sum:=z3x B T g0 G_turned_sign G_without n
  exact B.on fun F hm hb=>z2s (k:=4+n) (g:=z1U (z1i n)) F hm hb fG rfl rfl fun cdv A outer s H E hr=>
  (z0h (z8o (z7H hr.units (z0O rfl T.fy (z0f 0 (pv 0))) z0i) (z0j (z0w z0i)) z1q)
   (z0h (z1j (z0H (i:=1) fG.nd rfl (Or.inl rfl) z0i))
   (z0h (z4T PassesOwn.never rfl (pi_rng2 rfl T.fx z0i (z0O rfl T.fy (z0f 0 (pv 0)))) (z0l (i:=2) fG.nd rfl (Or.inl rfl)) (z0j (z1j (z0H (i:=1) fG.nd rfl (Or.inl rfl) (z3B (z0f 1 (pv 1)) (y2z (y2z (z1r (z0g G_turned_sign (hr.mono (by omega)) rfl (z0a (y0X (z0f 2 (pv 2)) z0i) z0b))) (z1r (z0g g0 (hr.mono (by omega)) rfl (z0a (z0f 0 (pv 0)) (z0a (z0f 2 (pv 2)) z0b))))) (z1r (z0g G_pairing_sum (hr.mono (by omega)) rfl (z0a (z1r (z0g G_without (hr.mono (by omega)) rfl (z0a (z0f 0 (pv 0)) (z0a (z5Y (z1w (z0a z0i (z0a (z0f 2 (pv 2)) z0b)) (cX rfl))) z0b)))) z0b)))))))))
   (z0j (z0w (z0f 1 (pv 1)))))))
theorem z7F(B:FnB K mg "pairing_sum" z1W z3j)(T:Txt mg)(g0:DefOk P w K mg base 1 "sign" (spN K y0Y))(G_turned_sign:DefOk P w K mg base 1 "turned_sign" (spN K z0K))(G_without:DefOk P w K mg base 3 "without" (spN K z1g)):DefOk P w K mg base 16 "pairing_sum" (spN K z1s):=z3x B T g0 G_turned_sign G_without 12
theorem y9m:FnScope x1L y3B (z0e z9z):=z0x
theorem y9B(B:FnB K mg "kernel" z9z y3B)(T:Txt mg)(G_turned_sign:DefOk P w K mg base 1 "turned_sign" (spN K z0K))(G_without:DefOk P w K mg base 3 "without" (spN K z1g))(G_pairing_sum:DefOk P w K mg base 16 "pairing_sum" (spN K z1s)):DefOk P w K mg base 17 "kernel" (spN K z6m):=
 B.on fun F hm hb=>z2s (k:=16) (g:=z9c) F hm hb y9m rfl rfl fun cdv A outer s H E hr=>
  (z0j (z1z (z6D (z0Y (N':=["table", "thing"])  rfl ⟨rfl,rfl,rfl,rfl,rfl⟩ (n:=1) rfl (z1m rfl T.fx (z0O rfl T.fy (z0f 0 (pv 0)))) (fun _ _ _ _ _=>z0l (i:=1) nd10 rfl (Or.inl rfl)) (fun _ _ _ _ _=>z0C) (fun _ _ _ _ _=>(y2z (z1r (z0g G_turned_sign (hr.mono (by decide)) rfl (z0a (z0f 1 (pv 1)) z0b))) (z1r (z0g G_pairing_sum (hr.mono (by decide)) rfl (z0a (z1r (z0g G_without (hr.mono (by decide)) rfl (z0a (z0f 0 (pv 0)) (z0a (z5Y (z1w (z0a (z0f 1 (pv 1)) z0b))) z0b)))) z0b)))))))))
theorem y0j:FnScope y1X z6Q (z0e z4g):=z0x
theorem y1y(B:FnB K mg "weight_of" z4g z6Q)(T:Txt mg):DefOk P w K mg base 1 "weight_of" (spN K z2b):=
 B.on fun F hm hb=>z2s (k:=0) (g:=z4n) F hm hb y0j rfl rfl fun cdv A outer s H E hr=>
  (z0j (z0w (x2L rfl rfl T.jq (z5Y (z0Y (N':=["weights", "things", "thing"])  rfl ⟨rfl,rfl,rfl,rfl,rfl⟩ (n:=2) rfl (z0I (z0f 1 (pv 1))) (fun _ _ _ _ _=>z0l (i:=2) nd19 rfl (Or.inl rfl)) (fun _ _ _ _ _=>z0C) (fun _ _ _ _ _=>(z0G (z0f 0 (pv 0)) (z0f 2 (pv 2)))))))))
theorem x1N:FnScope ju y6H (z0e y2R):=z0x
theorem x0l(B:FnB K mg "score" y2R y6H)(T:Txt mg)(G_beaten_by:DefOk P w K mg base 2 "beaten_by" (spN K z0D))(gv:DefOk P w K mg base 2 "beaters_of" (spN K z2k))(gb:DefOk P w K mg base 1 "weight_of" (spN K z2b)):DefOk P w K mg base 3 "score" (spN K z6O):=
 B.on fun F hm hb=>z2s (k:=2) (g:=y1S) F hm hb x1N rfl rfl fun cdv A outer s H E hr=>
  (z0j (z0w (y0X (z1r (z0g gb (hr.mono (by decide)) rfl (z0a (z0f 1 (pv 1)) (z0a (z1r (z0g G_beaten_by (hr.mono (by decide)) rfl (z0a (z0f 0 (pv 0)) (z0a (z0f 2 (pv 2)) z0b)))) z0b)))) (z1r (z0g gb (hr.mono (by decide)) rfl (z0a (z0f 1 (pv 1)) (z0a (z1r (z0g gv (hr.mono (by decide)) rfl (z0a (z0f 0 (pv 0)) (z0a (z0f 2 (pv 2)) z0b)))) z0b)))))))
theorem z8E:FnScope y0q z5T (z0e z3v):=z0x
theorem z8T(B:FnB K mg "is_even_at" z3v z5T)(T:Txt mg)(io:DefOk P w K mg base 3 "score" (spN K z6O)):DefOk P w K mg base 4 "is_even_at" (spN K z1K):=
 B.on fun F hm hb=>z2s (k:=3) (g:=z2i) F hm hb z8E rfl rfl fun cdv A outer s H E hr=>
  (z0h (z8o (y6y (z0G (z0f 1 (pv 1)) (z0f 2 (pv 2))) z0i) (z0j (z0w (pd_eq hr.units (z1r (z0g io (hr.mono (by decide)) rfl (z0a (z0f 0 (pv 0)) (z0a (z0f 1 (pv 1)) (z0a (z0f 2 (pv 2)) z0b))))) z0i))) z1q)
   (z0j (z0w (pd_lt (z1r (z0g io (hr.mono (by decide)) rfl (z0a (z0f 0 (pv 0)) (z0a (z0f 1 (pv 1)) (z0a (z0f 2 (pv 2)) z0b))))) z0i))))
theorem y4N:FnScope y6O y0v (z0e z6W):=z0x
theorem y4V(B:FnB K mg "is_even" z6W y0v)(T:Txt mg)(gw:DefOk P w K mg base 4 "is_even_at" (spN K z1K)):DefOk P w K mg base 5 "is_even" (spN K z4N):=
 B.on fun F hm hb=>z2s (k:=4) (g:=z6J) F hm hb y4N rfl rfl fun cdv A outer s H E hr=>
  (z0h (z8o (PW.pt (x2C (pt_lt (pd_minL rfl rfl T.jN (z0f 1 (pv 1))) z0i) (y6W (z7H hr.units (pd_maxL rfl rfl T.jO (z0f 1 (pv 1))) z0i)))) (z0j (z0w z7A)) z1q)
   (z0j (z0w (y8G rfl rfl T.jc (z1r (z5r (N':=["table", "weights", "thing"])  rfl ⟨rfl,rfl,rfl,rfl,rfl⟩ (n:=2) rfl (z1m rfl T.fx (z0O rfl T.fy (z0f 0 (pv 0)))) (fun _ _ _ _ _=>z0l (i:=2) nd20 rfl (Or.inl rfl)) (fun _ _ _ _ _=>z0C) (fun _ _ _ _ _=>(z0g gw (hr.mono (by decide)) rfl (z0a (z0f 0 (pv 0)) (z0a (z0f 1 (pv 1)) (z0a (z0f 2 (pv 2)) z0b)))))))))))
theorem fY:FnScope y1R z7o (z0e z4f):=z0x
theorem y1o(B:FnB K mg "odd_picks" z4f z7o)(T:Txt mg):DefOk P w K mg base 1 "odd_picks" (spR K z2Z):=
 B.on fun F hm hb=>defR (k:=0) (g:=z4u) F hm hb fY rfl rfl fun cdv A outer s H E B hr=>
  (z0h (z3p (z0H (i:=1) fY.nd rfl (Or.inl rfl) (z1r (pn_list (x1u (z6D (z1w z0b)) pan_nil)))))
   (z0h (z4T PassesOwn.never rfl (z0I (z0f 0 (pv 0))) (z0l (i:=2) fY.nd rfl (Or.inr rfl)) (z0j (z3p (z0H (i:=1) fY.nd rfl (Or.inl rfl) (z5Y (y1J (z0f 1 (pv 1)) (z1r (z5r (N':=["things", "picks", "thing", "pick"])  rfl ⟨rfl,rfl,rfl,rfl,rfl⟩ (n:=3) rfl (z0I (z0f 1 (pv 1))) (fun _ _ _ _ _=>z0l (i:=3) nd21 rfl (Or.inl rfl)) (fun _ _ _ _ _=>z0C) (fun _ _ _ _ _=>(z6D (y1J (z0f 3 (pv 3)) (z5Y (z1w (z0a (z0f 2 (pv 2)) z0b))))))))))))))
   (z0j (y5X (z5Y (z0Y (N':=["things", "picks", "thing", "pick"])  rfl ⟨rfl,rfl,rfl,rfl,rfl⟩ (n:=3) rfl (z0I (z0f 1 (pv 1))) (fun _ _ _ _ _=>z0l (i:=3) nd21 rfl (Or.inl rfl)) (fun _ _ _ _ _=>z0N (z7H hr.units (z2G (z0O rfl T.fy (z0f 3 (pv 3))) z0i) z0i)) (fun _ _ _ _ _=>(z0f 3 (pv 3)))))))))
theorem fE:FnScope z6b z3q (z0e z1Q):=z0x
theorem z5i(B:FnB K mg "divisor_of_two" z1Q z3q)(T:Txt mg):DefOk P w K mg base 1 "divisor_of_two" (spN K z1k):=
 B.on fun F hm hb=>z2s (k:=0) (g:=z1N) F hm hb fE rfl rfl fun cdv A outer s H E hr=>
  (z0h (y2Q 100 PassesOwn.never (y6y (z0f 1 (pv 1)) z0i) (z0h (z1j (z0H (i:=2) fE.nd rfl (Or.inl rfl) (z2G (z0f 0 (pv 0)) (z0f 1 (pv 1)))))
   (z0h (z1j (z0H (i:=0) fE.nd rfl (Or.inl rfl) (z0f 1 (pv 1))))
   (z0j (z1j (z0H (i:=1) fE.nd rfl (Or.inl rfl) (z0f 2 (pv 2))))))))
   (z0j (z0w (z0f 0 (pv 0)))))
theorem fF:FnScope z6a z3l (z0e z1P):=z0x
theorem z5j(B:FnB K mg "common_divisor" z1P z3l)(T:Txt mg)(fR:DefOk P w K mg base 1 "divisor_of_two" (spN K z1k)):DefOk P w K mg base 2 "common_divisor" (spN K z1l):=
 B.on fun F hm hb=>z2s (k:=1) (g:=z1O) F hm hb fF rfl rfl fun cdv A outer s H E hr=>
  (z0h (z1j (z0H (i:=1) fF.nd rfl (Or.inl rfl) z0i))
   (z0h (z4T PassesOwn.never rfl (z0I (z0f 0 (pv 0))) (z0l (i:=2) fF.nd rfl (Or.inl rfl)) (z0j (z1j (z0H (i:=1) fF.nd rfl (Or.inl rfl) (z1r (z0g fR (hr.mono (by decide)) rfl (z0a (z0f 1 (pv 1)) (z0a (pd_abs rfl T.jP (z0f 2 (pv 2))) z0b))))))))
   (z0j (z0w (z0f 1 (pv 1))))))
theorem fA:FnScope y1K z5J (z0e z3G):=z0x
theorem z8H(B:FnB K mg "weights_on" z3G z5J)(T:Txt mg)(gZ:DefOk P w K mg base 2 "part" (spN K z7R))(iy:DefOk P w K mg base 17 "kernel" (spN K z6m))(fS:DefOk P w K mg base 2 "common_divisor" (spN K z1l)):DefOk P w K mg base 18 "weights_on" (spN K z2o):=
 B.on fun F hm hb=>z2s (k:=17) (g:=z3C) F hm hb fA rfl rfl fun cdv A outer s H E hr=>
  (z0h (z3p (z0H (i:=2) fA.nd rfl (Or.inl rfl) (z1r (z0g iy (hr.mono (by decide)) rfl (z0a (z1r (z0g gZ (hr.mono (by decide)) rfl (z0a (z0f 0 (pv 0)) (z0a (z0f 1 (pv 1)) z0b)))) z0b)))))
   (z0h (z1j (z0H (i:=3) fA.nd rfl (Or.inl rfl) (z1r (z0g fS (hr.mono (by decide)) rfl (z0a (z0f 2 (pv 2)) z0b)))))
   (z0h (z8o (pt_lt (z0G (z0f 2 (pv 2)) z0i) z0i) (z0j (z1j (z0H (i:=3) fA.nd rfl (Or.inl rfl) (y1r (z0f 3 (pv 3)))))) z1q)
   (z0h (z2L (z0H (i:=4) fA.nd rfl (Or.inl rfl) (z6D (pf_rep (z5Y (z1w (z0a z0i z0b))) (z0O rfl T.fy (z0f 0 (pv 0)))))))
   (z0h (s_for2 PassesOwn.never rfl (pi_zipD rfl T.jQ (z0f 1 (pv 1)) (z0f 2 (pv 2))) (pg_pair rfl (z0l (i:=5) fA.nd rfl (Or.inl rfl)) (z0l (i:=6) fA.nd rfl (Or.inl rfl))) (z0j (s_st0 (pv 4) (z0f 5 (pv 5)) (pd_divN (z0f 6 (pv 6)) (z0f 3 (pv 3))))))
   (z0j (y1x (pv 4))))))))
theorem gN:FnScope y4S z7W (z0e z5e):=z0x
theorem y1T(B:FnB K mg "weighing" z5e z7W)(T:Txt mg)(G_uncovered:DefOk P w K mg base 5 "uncovered" (spN K z1o))(ig:DefOk P w K mg base 5 "is_even" (spN K z4N))(gO:DefOk P w K mg base 1 "odd_picks" (spR K z2Z))(gx:DefOk P w K mg base 18 "weights_on" (spN K z2o)):DefOk P w K mg base 19 "weighing" (spN K z2C):=
 B.on fun F hm hb=>z2s (k:=18) (g:=z5q) F hm hb gN rfl rfl fun cdv A outer s H E hr=>
  (z0j (z4T PassesOwn.never rfl (z0I (y3g gO (hr.mono (by decide)) rfl (z0a (z1r (z0g G_uncovered (hr.mono (by decide)) rfl (z0a (z0f 0 (pv 0)) z0b))) z0b))) (z0l (i:=1) gN.nd rfl (Or.inl rfl)) (z0h (z2L (z0H (i:=2) gN.nd rfl (Or.inl rfl) (z0g gx (hr.mono (by decide)) rfl (z0a (z0f 0 (pv 0)) (z0a (z0f 1 (pv 1)) z0b)))))
   (z0j (z8o (z0s (z1r (z0g ig (hr.mono (by decide)) rfl (z0a (z0f 0 (pv 0)) (z0a (z0f 2 (pv 2)) z0b))))) (z0j (y1x (pv 2))) z1q)))))
theorem z7O:FnScope z8K z4Z (z0e z2Q):=z0x
theorem z7N(B:FnB K mg "standing_of" z2Q z4Z)(T:Txt mg)(G_uncovered:DefOk P w K mg base 5 "uncovered" (spN K z1o))(iz:DefOk P w K mg base 15 "crowns" (spN K z4Q))(g7:DefOk P w K mg base 6 "top_ring" (spN K z2H))(g8:DefOk P w K mg base 19 "weighing" (spN K z2C)):DefOk P w K mg base 20 "standing_of" (spN K z1v):=
 B.on fun F hm hb=>z2s (k:=19) (g:=z2V) F hm hb z7O rfl rfl fun cdv A outer s H E hr=>
  (z0j (z0w (z5K (z0a (pd_in hr.units (z0f 1 (pv 1)) (z1r (z0g g7 (hr.mono (by decide)) rfl (z0a (z0f 0 (pv 0)) z0b)))) (z0a (pd_in hr.units (z0f 1 (pv 1)) (z1r (z0g G_uncovered (hr.mono (by decide)) rfl (z0a (z0f 0 (pv 0)) z0b)))) (z0a (pd_in hr.units (z0f 1 (pv 1)) (z1r (z0g iz (hr.mono (by decide)) rfl (z0a (z0f 0 (pv 0)) z0b)))) (z0a (pd_gt (z0G (z1r (z0g g8 (hr.mono (by decide)) rfl (z0a (z0f 0 (pv 0)) z0b))) (z0f 1 (pv 1))) z0i) z0b)))))))
theorem gL:FnScope z7D z2z (z0e z2v):=z0x
theorem z7i(B:FnB K mg "raised_votes" z2v z2z)(T:Txt mg)(Z:Cls K mg base cl)(fJ:DefX P w K mg base 1 "raised_order" (spX K cl z1h)):DefX P w K mg base 2 "raised_votes" (spX K cl z1D):=by
 exact B.on fun F hm hb=>⟨_,_,z2z,hm,F.kp,hb,fnX (k:=1) (g:=z2t) F gL rfl rfl fun cdv A outer s H E hr=>
  (z0h (z1j (z0H (i:=3) gL.nd rfl (Or.inl rfl) (z0G (z0f 0 (pv 0)) (z0f 1 (pv 1)))))
   (z0j (s_or (z1z (z6D (y1J (z5Y (y1J (z5Y (z3U (z0f 0 (pv 0)) z3h (z1S (z0f 1 (pv 1))))) (z5Y (z1w (z0a (z5K (z0a (z0G (z0f 3 (pv 3)) z0i) (z0a (z1r (z6j fJ (hr.mono (by decide)) rfl (z0a (z0G (z0f 3 (pv 3)) z0i) (z0a (z0f 2 (pv 2)) z0b)))) z0b))) z0b))))) (z5Y (z3U (z0f 0 (pv 0)) (z1S (z3B (z0f 1 (pv 1)) z0i)) z3h))))) (s_retCE (pe_exL (pe_exR (z5Y (z3U (z0f 0 (pv 0)) z3h (z1S (z0f 1 (pv 1))))) (pe_exLs (pe_exT (z0G (z0f 3 (pv 3)) z0i) (pe_exX (px_nX (y2f fJ (hr.mono (by decide)) rfl x2N (z0a (z0G (z0f 3 (pv 3)) z0i) (z0a (z0f 2 (pv 2)) z0b)))))))) (z5Y (z3U (z0f 0 (pv 0)) (z1S (z3B (z0f 1 (pv 1)) z0i)) z3h)))))))⟩
theorem fN:FnScope y0x z5L (z0e z3I):=z0x
theorem z8q(B:FnB K mg "_law_order" z3I z5L)(T:Txt mg):DefOk P w K mg base 1 "_law_order" (spN K z2j):=
 B.on fun F hm hb=>z2s (k:=0) (g:=z3w) F hm hb fN rfl rfl fun cdv A outer s H E hr=>
  (z0h (z2L (z0H (i:=2) fN.nd rfl (Or.inl rfl) (z6D (y7B rfl rfl T.jG rfl T.fx (z0f 1 (pv 1))))))
   (z0h (z2L (z0H (i:=3) fN.nd rfl (Or.inl rfl) (z6D (z1w z0b))))
   (z0h (y2Q 100 PassesOwn.never (y6y (z0O rfl T.fy (z0f 2 (pv 2))) z0i) (z0h (y8j (by decide) (pv 3) (pv 2) (z2G (z0f 0 (pv 0)) (z0O rfl T.fy (z0f 2 (pv 2)))))
   (z0j (z1j (z0H (i:=0) fN.nd rfl (Or.inl rfl) (y1s (z0f 0 (pv 0)) (z3B (z0O rfl T.fy (z0f 2 (pv 2))) z0i)))))))
   (z0j (z0w (x2e rfl T.ja (z0f 3 (pv 3))))))))
theorem fD:FnScope y0f z5U (z0e z3M):=z0x
theorem z9m(B:FnB K mg "_law_votes" z3M z5U)(T:Txt mg)(gy:DefOk P w K mg base 1 "_law_order" (spN K z2j)):DefOk P w K mg base 2 "_law_votes" (spN K z2p):=
 B.on fun F hm hb=>z2s (k:=1) (g:=z3z) F hm hb fD rfl rfl fun cdv A outer s H E hr=>
  (z0h (z2L (z0H (i:=2) fD.nd rfl (Or.inl rfl) (z6D (z1w z0b))))
   (z0h (z1j (z0H (i:=3) fD.nd rfl (Or.inl rfl) z0i))
   (z0h (z4T PassesOwn.never rfl (z0I (z5Y (z3U (z0f 0 (pv 0)) (z1S z0i) (z1S z0i)))) (z0l (i:=4) fD.nd rfl (Or.inl rfl)) (z0h (z1j (z0H (i:=5) fD.nd rfl (Or.inl rfl) (z2G (z0f 4 (pv 4)) (y9C z0i z0i))))
   (z0h (s_m0 PySem.F.slot_list_append PySem.F.type_list_append z3Q z7x (pv 2) (z0a (z5K (z0a (z3B z0i (z2G (y1s (z0f 5 (pv 5)) z0i) (z0G (z5Y (z1w (z0a z0i (z0a (y9C z0i z0i) z0b)))) (z2G (z0f 5 (pv 5)) z0i)))) (z0a (z1r (z0g gy (hr.mono (by decide)) rfl (z0a (y1s (z0f 5 (pv 5)) z0i) (z0a (z0f 1 (pv 1)) z0b)))) z0b))) z0b))
   (z0j (z1j (z0H (i:=3) fD.nd rfl (Or.inl rfl) (z3B (z0f 3 (pv 3)) (z0G (z0G (z0f 2 (pv 2)) (y1r z0i)) z0i))))))))
   (z0h (z8o (z7H hr.units (z2G (z0f 3 (pv 3)) z0i) z0i) (z0j (s_m0 PySem.F.slot_list_append PySem.F.type_list_append z3Q z7x (pv 2) (z0a (z5K (z0a z0i (z0a (x1z rfl rfl T.ja rfl T.fx (z0f 1 (pv 1))) z0b))) z0b))) z1q)
   (z0j (y1x (pv 2)))))))
theorem gz:FnScope y2P z6v (z0e z4s):=z0x
theorem y1C(B:FnB K mg "_law_kept" z4s z6v)(T:Txt mg):DefOk P w K mg base 1 "_law_kept" (spN K z2R):=
 B.on fun F hm hb=>z2s (k:=0) (g:=z4m) F hm hb gz rfl rfl fun cdv A outer s H E hr=>
  (z0h (z4T PassesOwn.never rfl (z1m rfl T.fx (z0O rfl T.fy (z0f 0 (pv 0)))) (z0l (i:=3) gz.nd rfl (Or.inl rfl)) (z0j (z4T PassesOwn.never rfl (z1m rfl T.fx (z0O rfl T.fy (z0f 0 (pv 0)))) (z0l (i:=4) gz.nd rfl (Or.inl rfl)) (z0j (z8o (PW.pt (z8P (y9z hr.units (z0f 3 (pv 3)) (z0f 2 (pv 2))) (z8P (y9z hr.units (z0f 4 (pv 4)) (z0f 2 (pv 2))) (z9n (y9z hr.units (z0G (z0G (z0f 0 (pv 0)) (z0f 3 (pv 3))) (z0f 4 (pv 4))) (z0G (z0G (z0f 1 (pv 1)) (z0f 3 (pv 3))) (z0f 4 (pv 4)))))))) (z0j (z0w z7A)) z1q)))))
   (z0j (z0w (pd_eq hr.units (z0O rfl T.fy (z5Y (z0Y (N':=["before", "behind", "thing", "one", "4", "other"])  rfl ⟨rfl,rfl,rfl,rfl,rfl⟩ (n:=5) rfl (z1m rfl T.fx (z0O rfl T.fy (z0f 0 (pv 0)))) (fun _ _ _ _ _=>z0l (i:=5) nd22 rfl (Or.inl rfl)) (fun _ _ _ _ _=>z0N (PW.pt (z8P (z0s (z0G (z0G (z0f 0 (pv 0)) (z0f 2 (pv 2))) (z0f 5 (pv 5)))) (z9n (z4t (z0s (z0G (z0G (z0f 1 (pv 1)) (z0f 2 (pv 2))) (z0f 5 (pv 5))))))))) (fun _ _ _ _ _=>(z0f 5 (pv 5)))))) z0i))))
theorem fB:FnScope jK jb (z0e z9N):=z0x
theorem jJ{f:Addr}{fd:eY}(F:Fun K "law" "law" z9N f fd)(T:Txt mg)(Z:Cls K mg base cl)(gq:DefX P w K mg base 4 "table_of" (spX K cl z2E))(fO:DefOk P w K mg base 20 "standing_of" (spN K z1v))(f6:DefX P w K mg base 2 "raised_votes" (spX K cl z1D))(gA:DefOk P w K mg base 2 "_law_votes" (spN K z2p))(gP:DefOk P w K mg base 1 "_law_kept" (spN K z2R)):FnOk P w K mg base CX0 21 f fd jb (spN K y5s):=
 fnN (k:=20) (g:=g_law) F fB rfl rfl fun cdv A outer s H E hr=>
  (z0h (z1j (z0H (i:=1) fB.nd rfl (Or.inl rfl) z0i))
   (z0h (z1j (z0H (i:=2) fB.nd rfl (Or.inl rfl) z0i))
   (z0h (z8o (y6y (z0O rfl T.fy (z0f 0 (pv 0))) z0i) (z0h (z1j (z0H (i:=2) fB.nd rfl (Or.inl rfl) (z2G (z0G (z0f 0 (pv 0)) z0i) (y9C z0i z0i))))
   (z0j (z1j (z0H (i:=1) fB.nd rfl (Or.inl rfl) (z3B z0i (z2G (z0f 2 (pv 2)) z0i)))))) z1q)
   (z0h (z3p (z0H (i:=3) fB.nd rfl (Or.inl rfl) (z1r (z0g gA (hr.mono (by decide)) rfl (z0a (z0f 0 (pv 0)) (z0a (z0f 1 (pv 1)) z0b))))))
   (z0h (z1j (z0H (i:=4) fB.nd rfl (Or.inl rfl) (z2G (y1s (z0f 2 (pv 2)) z0i) (z0f 1 (pv 1)))))
   (z0h (z3p (z0H (i:=5) fB.nd rfl (Or.inl rfl) (z1r (z6j gq (hr.mono (by decide)) rfl (z0a (z0f 3 (pv 3)) (z0a (z0f 1 (pv 1)) z0b))))))
   (z0h (z3p (z0H (i:=6) fB.nd rfl (Or.inr rfl) (z1r (z0g fO (hr.mono (by decide)) rfl (z0a (z0f 5 (pv 5)) (z0a (z0f 4 (pv 4)) z0b))))))
   (z0h (z4T PassesOwn.never rfl (z1m rfl T.fx z0i) (z0l (i:=7) fB.nd rfl (Or.inl rfl)) (z0h (z1j (z0H (i:=8) fB.nd rfl (Or.inl rfl) (z2G (z3B (z3B (y1s (z0f 2 (pv 2)) z0i) (y6D (y6D z0i (z0f 7 (pv 7))) (z0f 7 (pv 7)))) (y6D z0i (z0f 7 (pv 7)))) (z0O rfl T.fy (z0f 3 (pv 3))))))
   (z0j (z8o (y9z hr.units (z0G (z0G (z0G (z0f 3 (pv 3)) (z0f 8 (pv 8))) z0i) z0i) (z0f 4 (pv 4))) (z0h (z3p (z0H (i:=3) fB.nd rfl (Or.inl rfl) (z1r (z6j f6 (hr.mono (by decide)) rfl (z0a (z0f 3 (pv 3)) (z0a (z0f 8 (pv 8)) (z0a (z0f 4 (pv 4)) z0b)))))))
   (z0h (z3p (z0H (i:=9) fB.nd rfl (Or.inl rfl) (z1r (z6j gq (hr.mono (by decide)) rfl (z0a (z0f 3 (pv 3)) (z0a (z0f 1 (pv 1)) z0b))))))
   (z0h (z3p (z0H (i:=10) fB.nd rfl (Or.inr rfl) (z1r (z0g fO (hr.mono (by decide)) rfl (z0a (z0f 9 (pv 9)) (z0a (z0f 4 (pv 4)) z0b))))))
   (z0h (z8o (z4t (z0s (z1r (z0g gP (hr.mono (by decide)) rfl (z0a (z0f 5 (pv 5)) (z0a (z0f 9 (pv 9)) (z0a (z0f 4 (pv 4)) z0b))))))) (z0j (z0w z7A)) z1q)
   (z0h (z8o (y6y (z0O rfl T.fy (z5Y (z0Y (N':=["script", "many", "first", "votes", "thing", "table", "stood", "k", "at", "behind", "stands_now", "j"])  rfl ⟨rfl,rfl,rfl,rfl,rfl⟩ (n:=11) rfl (z1m rfl T.fx z0i) (fun _ _ _ _ _=>z0l (i:=11) nd23 rfl (Or.inl rfl)) (fun _ _ _ _ _=>z0N (PW.pt (z8P (z0s (z0G (z0f 6 (pv 6)) (z0f 11 (pv 11)))) (z9n (z4t (z0s (z0G (z0f 10 (pv 10)) (z0f 11 (pv 11))))))))) (fun _ _ _ _ _=>(z0f 11 (pv 11)))))) z0i) (z0j (z0w z7A)) z1q)
   (z0h (z3p (z0H (i:=5) fB.nd rfl (Or.inl rfl) (z0f 9 (pv 9))))
   (z0j (z3p (z0H (i:=6) fB.nd rfl (Or.inr rfl) (z0f 10 (pv 10))))))))))) z1q))))
   (z0j (z0w z7A))))))))))
end
theorem all_mk{l:dh}{w:eX}{K:aa}{h:Heap}{mg:Str->Option Value}{fa:Addr}(X:K.In h)(G:h.Ns mainGlobals mg)(hfa:mg "law" = some (.ref fa))
  {f_law:Addr} {od0 an0:Option Addr} {sl0:Array (Option Value)} {oc0 kV0 dc0 pm0 cd0 ct0:Value} {fM ic C_NothingLeft:Addr}
  (iZ:FnG K "part" y6i) (iA:FnG K "picked" z9x) (iB:FnG K "column" z9v) (gQ:FnG K "beaten_by" z4v) (gB:FnG K "beaters_of" z3A) (gR:FnG K "beats_all" z4e) (gg:FnG K "places_true" z3c) (iC:FnG K "covers" z9f) (gS:FnG K "uncovered" z4o) (gC:FnG K "is_covered" z3u) (g9:FnG K "is_chain" z5v) (ii:FnG K "beaters" z6Z) (iD:FnG K "stands" z9T) (iE:FnG K "crowns" z8F) (gh:FnG K "crown_paper" z2U) (f7:FnG K "ended_chains" z1G) (ij:FnG K "reached" z6t) (gD:FnG K "steps_from" z3y) (iO:FnG K "rings" y2q) (gi:FnG K "places_with" z2W) (hJ:FnG K "top_ring" z5E) (hU:FnG K "is_thing" z5z) (fL:FnG K "tells_each_once" z1A) (iP:FnG K "asked" y2h) (iF:FnG K "voices" z9S) (i3:FnG K "lead" y6Q) (gE:FnG K "puts_ahead" z3t) (f8:FnG K "raised_order" z2B) (hV:FnG K "table_of" z5F) (iG:FnG K "row_of" z8u) (gj:FnG K "pairing_sum" z1W) (i4:FnG K "sign" y6x) (gl:FnG K "turned_sign" z3k) (ik:FnG K "without" z6R) (iH:FnG K "kernel" z9z) (iQ:FnG K "score" y2R) (gT:FnG K "weight_of" z4g) (il:FnG K "is_even" z6W) (gF:FnG K "is_even_at" z3v) (h9:FnG K "weighing" z5e) (gU:FnG K "odd_picks" z4f) (gG:FnG K "weights_on" z3G) (fU:FnG K "common_divisor" z1P) (fV:FnG K "divisor_of_two" z1Q) (gm:FnG K "standing_of" z2Q) (f9:FnG K "raised_votes" z2v) (gH:FnG K "_law_order" z3I) (gI:FnG K "_law_votes" z3M) (gW:FnG K "_law_kept" z4s)
  (jd:aE K mainGlobals "law" = some (some (.ref f_law))) (je:K.lookup f_law=some ⟨oc0,od0,.func (bu "law" "law" (z2x z9N) (z1f z9N) (z0e z9N) .none kV0 dc0 pm0 an0 cd0 ct0),sl0⟩) (c_law:cT K cd0 "law" = true) (jf:bE K (.ref f_law)=true)
  (gd:aE K mainGlobals "BadBallot" = some (some (.ref fM))) (gX:cJ K fM bmVE "ValueError.__new__" = true)
  (iJ:aE K mainGlobals "Even" = some (some (.ref ic))) (i5:cJ K ic bmVE "ValueError.__new__" = true)
  (fP:aE K mainGlobals "NothingLeft" = some (some (.ref C_NothingLeft))) (gn:cJ K C_NothingLeft bmVE "ValueError.__new__" = true)
  (jg:aE K mainGlobals "all" = some none) (gY:aE K mainGlobals "enumerate" = some none) (iR:aE K mainGlobals "range" = some none) (jh:aE K mainGlobals "len" = some none) (ji:aE K mainGlobals "any" = some none) (iI:aE K mainGlobals "sorted" = some none) (jj:aE K mainGlobals "int" = some none) (gJ:aE K mainGlobals "isinstance" = some none) (i6:aE K mainGlobals "bool" = some none) (jk:aE K mainGlobals "sum" = some none) (jl:aE K mainGlobals "min" = some none) (jm:aE K mainGlobals "max" = some none) (jn:aE K mainGlobals "abs" = some none) (jo:aE K mainGlobals "zip" = some none) (iS:aE K mainGlobals "tuple" = some none) (i7:aE K mainGlobals "list" = some none):
  ∃fd:eY,(∀(s:Shared) (v:Value),BindsTo s fd ⟨[v],[]⟩ [("script",v)])∧∀base:Heap,K.In base->base.Ns mainGlobals mg->FnOk l.prog w K mg base CX0 21 fa fd ["script"] (x1I K y5s):=by
 have e:=hfa.symm.trans (dL X G jd)
 cases e
 have T:Txt mg:=⟨aN X G jg,aN X G gY,aN X G iR,aN X G jh,aN X G ji,aN X G iI,aN X G jj,aN X G gJ,aN X G i6,aN X G jk,aN X G jl,aN X G jm,aN X G jn,aN X G jo,aN X G iS,aN X G i7⟩
 have jr:=fun_mk (st:=z9N) je c_law jf
 have b_law:=jr.binds (ps:=jb) fun _ _ _ _ _ _ us hl=>match us,hl with | [_],_=>rfl
 refine⟨bu "law" "law" (z2x z9N) (z1f z9N) (z0e z9N) .none kV0 dc0 pm0 an0 cd0 ct0,fun s v=>.of_eq rfl,fun base KB GB=>?_⟩
 let cl:Nat->Value:=fun n=>match n with | 1=>.ref fM | 2=>.ref ic | 3=>.ref C_NothingLeft | _=>.none
 have Z:Cls K mg base cl:=⟨⟨fM,rfl,y8E KB GB gd gX,gd,trivial⟩,⟨ic,rfl,y8E KB GB iJ i5,iJ,trivial⟩,⟨C_NothingLeft,rfl,y8E KB GB fP gn,fP,trivial⟩⟩
 have ip:=y9H (P:=l.prog) (w:=w) (base:=base) (fg2 X G iA) T
 have gZ:=jw (P:=l.prog) (w:=w) (base:=base) (fg2 X G iZ) T ip
 have iq:=y7k (P:=l.prog) (w:=w) (base:=base) (fg2 X G iB) T
 have G_beats_all:=y1u (P:=l.prog) (w:=w) (base:=base) (fg3 X G gR) T
 have G_places_true:=z7P (P:=l.prog) (w:=w) (base:=base) (fg1 X G gg) T
 have G_beaten_by:=y0i (P:=l.prog) (w:=w) (base:=base) (fg2 X G gQ) T G_places_true
 have gv:=z8V (P:=l.prog) (w:=w) (base:=base) (fg2 X G gB) T iq G_places_true
 have ir:=y9W (P:=l.prog) (w:=w) (base:=base) (fg3 X G iC) T G_beats_all G_beaten_by
 have gr:=z8r (P:=l.prog) (w:=w) (base:=base) (fg2 X G gC) T ir
 have G_uncovered:=y0o (P:=l.prog) (w:=w) (base:=base) (fg1 X G gS) T gr
 have g5:=y1Y (P:=l.prog) (w:=w) (base:=base) (fg2 X G g9) T G_beats_all
 have fW:=y4W (P:=l.prog) (w:=w) (base:=base) (fg2 X G ii) T G_beats_all
 have iu:=y6a (P:=l.prog) (w:=w) (base:=base) (fg2 X G iD) T g5 fW
 have G_ended_chains:=z7m (P:=l.prog) (w:=w) (base:=base) (fg3 X G f7) T
 have ge:=z7I (P:=l.prog) (w:=w) (base:=base) (fg2 X G gh) T G_beaten_by fW iu G_ended_chains
 have iz:=y8C (P:=l.prog) (w:=w) (base:=base) (fg1 X G iE) T ge
 have gu:=z9u (P:=l.prog) (w:=w) (base:=base) (fg2 X G gD) T G_beaten_by
 have ib:=y5A (P:=l.prog) (w:=w) (base:=base) (fg2 X G ij) T gu
 have gf:=z7J (P:=l.prog) (w:=w) (base:=base) (fg2 X G gi) T
 have iK:=x1f (P:=l.prog) (w:=w) (base:=base) (fg1 X G iO) T ib gf
 have g7:=y2m (P:=l.prog) (w:=w) (base:=base) (fg1 X G hJ) T iK
 have g6:=y2y (P:=l.prog) (w:=w) (base:=base) (fg2 X G hU) T
 have fK:=z4K (P:=l.prog) (w:=w) (base:=base) (fg2 X G fL) T g6
 have fQ:=y8c (P:=l.prog) (w:=w) (base:=base) (fg1 X G iF) T
 have iN:=x0Y (P:=l.prog) (w:=w) (base:=base) (fg2 X G iP) T Z fK fQ
 have fX:=z8L (P:=l.prog) (w:=w) (base:=base) (fg3 X G gE) T
 have iY:=jy (P:=l.prog) (w:=w) (base:=base) (fg3 X G i3) T fQ fX
 have fJ:=z7t (P:=l.prog) (w:=w) (base:=base) (fg2 X G f8) T Z
 have iw:=y9O (P:=l.prog) (w:=w) (base:=base) (fg3 X G iG) T iY
 have gq:=y2e (P:=l.prog) (w:=w) (base:=base) (fg2 X G hV) T Z iN iw
 have g0:=jA (P:=l.prog) (w:=w) (base:=base) (fg2 X G i4) T
 have G_turned_sign:=z7E (P:=l.prog) (w:=w) (base:=base) (fg1 X G gl) T
 have G_without:=y4U (P:=l.prog) (w:=w) (base:=base) (fg2 X G ik) T gZ
 have G_pairing_sum:=z7F (P:=l.prog) (w:=w) (base:=base) (fg1 X G gj) T g0 G_turned_sign G_without
 have iy:=y9B (P:=l.prog) (w:=w) (base:=base) (fg1 X G iH) T G_turned_sign G_without G_pairing_sum
 have gb:=y1y (P:=l.prog) (w:=w) (base:=base) (fg2 X G gT) T
 have io:=x0l (P:=l.prog) (w:=w) (base:=base) (fg3 X G iQ) T G_beaten_by gv gb
 have gw:=z8T (P:=l.prog) (w:=w) (base:=base) (fg3 X G gF) T io
 have ig:=y4V (P:=l.prog) (w:=w) (base:=base) (fg2 X G il) T gw
 have gO:=y1o (P:=l.prog) (w:=w) (base:=base) (fg1 X G gU) T
 have fR:=z5i (P:=l.prog) (w:=w) (base:=base) (fg2 X G fV) T
 have fS:=z5j (P:=l.prog) (w:=w) (base:=base) (fg1 X G fU) T fR
 have gx:=z8H (P:=l.prog) (w:=w) (base:=base) (fg2 X G gG) T gZ iy fS
 have g8:=y1T (P:=l.prog) (w:=w) (base:=base) (fg1 X G h9) T G_uncovered ig gO gx
 have fO:=z7N (P:=l.prog) (w:=w) (base:=base) (fg2 X G gm) T G_uncovered iz g7 g8
 have f6:=z7i (P:=l.prog) (w:=w) (base:=base) (fg3 X G f9) T Z fJ
 have gy:=z8q (P:=l.prog) (w:=w) (base:=base) (fg2 X G gH) T
 have gA:=z9m (P:=l.prog) (w:=w) (base:=base) (fg2 X G gI) T gy
 have gP:=y1C (P:=l.prog) (w:=w) (base:=base) (fg3 X G gW) T
 exact law_of (jJ jr T Z gq fO f6 gA gP)
theorem walk{l:dh}{q:dw}{loose:List Str}{XP:(Str->Option Value)->Heap->Prop}{YP:eX->Heap->Prop}{d:DefRec}{K:Params->aa}(hn:l.most=some 63)(hdf:d.params.defaults=[])
  (hlaw:∀ns:List Int,ns.length≤63->y5s [.scr ns]=some (.bl true)) (hY:∀(w:eX) (h:Heap),YP w h->(K w.params).In h)
  (F:∀(w:eX) (mg:Str->Option Value) (fa:Addr) (h:Heap),(K w.params).In h->h.Ns mainGlobals mg->mg d.name=some (.ref fa) →
   ∃fd:eY,(∀(s:Shared) (u:Value),BindsTo s fd ⟨[u],[]⟩ [("script",u)])∧∀base:Heap,(K w.params).In base->base.Ns mainGlobals mg->FnOk l.prog w (K w.params) mg base CX0 21 fa fd ["script"] (x1I (K w.params) y5s)):
  PySem.W.WalkO q loose XP YP l.row.toRowW d [] (fun f vs=>PySem.call f vs):=
 L2.walk_of (n:=63) (k:=21) (x := "script") (CX:=fun _=>CX0) (sp:=fun w=>x1I (K w.params) y5s) hn (by decide) hdf ⟨rfl,by decide,by decide⟩ hY F (fun _ _ a ns hl hO hS=>⟨a,ns,rfl,x1g hO hS,hlaw ns hl,fun _=>rfl⟩) fun _ _ _ _ _ z=>z
end Prg
namespace Prg
open PySem L2
open Lean in
local macro_rules
 | `(tactic| simp! only[$xs,*] $[$loc]?)=>do
  let a ←(("y5V y9J ev_C ev_d2 ev_d1 y6U y3J y8Z x2j y7R x2n ev_if y3u y3W y8t y4A x3u x3E y0T ev_is x2B y8L y9v y6j y8M y0W x2Y y7l y7N y8l y9h y9U y6b y7u y7X y7H x2S x0d x3q x3F ev_m0 y4M y4i y8s y3o y6h y6V y9l x2D y4c x3h y3V y3n y4w y4H y4u y9g x3w y3l y7m y0B x3z y9q eo_r1 eo_2 x2R y9w y6M y4B x2G y6g y6v y8d y6n eo_nx eo_rt x2U x3g x2w y6L y9t y6r y5W x3b eo_in x2F y3O y9S x2u x3r y2X y7o y9V y8e y4F y6k ea_lt ea_le x0p y6R x3x x3j x2h y9F y7e z9p x2s x2m x2l y6c y8J x2o y6G y8f y8k y7s x3a x2x es_v1 es_v2 x2T y3p y3U y1d y0V x2r x2q y8u y8R eb_bs eb_ms eb_mn eb_s0 eb_sS eb_mc y7C eb_rS eb_r0 eb_ca eb_na".splitOn " ").toArray).mapM fun s=>`(Lean.Parser.Tactic.simpLemma| $(mkIdent s.toName):term)
  let b:Syntax.TSepArray [`Lean.Parser.Tactic.simpStar,`Lean.Parser.Tactic.simpErase,`Lean.Parser.Tactic.simpLemma] "," := ⟨(Syntax.TSepArray.ofElems (sep := ",") a).elemsAndSeps⟩
  `(tactic| simp only[$b,*,$xs,*] $[$loc]?)
open Lean in
local macro_rules
 | `(tactic| simp_all! only[$xs,*])=>do
  let a ←(("Int.reduceEq Int.reduceLT Int.reduceLE Int.reduceGT Int.reduceAdd Int.reduceSub Int.reduceMul Int.reduceNeg decide_true decide_false Bool.or_false Bool.false_or Bool.or_true Bool.true_or Bool.and_true Bool.true_and Bool.and_false Bool.false_and Bool.not_true Bool.not_false".splitOn " ").toArray).mapM fun s=>`(Lean.Parser.Tactic.simpLemma| $(mkIdent s.toName):term)
  let b:Syntax.TSepArray [`Lean.Parser.Tactic.simpStar,`Lean.Parser.Tactic.simpErase,`Lean.Parser.Tactic.simpLemma] "," := ⟨(Syntax.TSepArray.ofElems (sep := ",") a).elemsAndSeps⟩
  `(tactic| simp! only[$b,*,$xs,*])
structure Full(m:Nat)(T:List (List Bool)):Prop where
 sq:Sq m T
 own:∀i<m,at2 T i i=false
 two:∀i<m,∀j<m,i≠j->at2 T i j = !at2 T j i
theorem z7j(bs:List (Int×List Int))(hl:bs.length≤1000000):z3d [z3Z bs]=some (.int (z5m bs)):=by
 refine z0p rfl ?_
 have hl':(bs.map z1H).length≤1000000:=by rw[ah];exact hl
 have hc:z0Z (z1J z4C (d2 ixD (z0d 1) (dC (.int 0))) [some (z3Z bs)]) (bs.map z1H)=some ((bs.map (·.1)).map .int):=by
  rw[aK]
  exact z1C (fun b:Int×List Int=>.int b.1) fun b _=>by simp! only[y2t]
 simp! only[z8x,z9s,z2e hl',hc,x2i,z0c]
 rfl
theorem y6t{o:List Int}{a b:Int}(ha:a∈o)(hb:b∈o):z0W [z3g o,.int a,.int b]=some (.bl (ahd o a b)):=by
 refine z0p rfl ?_
 have e:decide ((plc o a:Int)<(plc o b:Int))=ahd o a b:=by unfold ahd;congr 1;rw[eq_iff_iff];omega
 simp! only[z3J,y2J ha,y2J hb,e,z0c]
theorem lead_eq(bs:List (Int×List Int))(hl:bs.length≤1000000){a b:Int}(hab:a≠b)(h:∀x∈bs,a∈x.2∧b∈x.2):y1I [z3Z bs,.int a,.int b]=some (.int (z4x bs a b)):=by
 refine z0p rfl ?_
 have hl':(bs.map z1H).length≤1000000:=by rw[ah];exact hl
 have c1:∀δ3 δ4,z0Z (z1J (z0u (z0k z0W [d2 ixD (z0d 5) (dC (.int 1)),z0d 1,z0d 2])) (z0d 5) [some (z3Z bs),some (.int a),some (.int b),δ3,δ4]) (bs.map z1H)=some ((bs.filter fun x=>ahd x.2 a b).map z1H):=fun δ3 δ4=>
  z7s (fun x=>ahd x.2 a b) z1H (fun x hx=>by simp! only[z7p,y6t (h x hx).1 (h x hx).2]) fun x hx _=>by simp! only[]
 have c2:∀δ3 δ4,z0Z (z1J (z0u (z0k z0W [d2 ixD (z0d 5) (dC (.int 1)),z0d 2,z0d 1])) (z0d 5) [some (z3Z bs),some (.int a),some (.int b),δ3,δ4]) (bs.map z1H)=some ((bs.filter fun x=>ahd x.2 b a).map z1H):=fun δ3 δ4=>
  z7s (fun x=>ahd x.2 b a) z1H (fun x hx=>by simp! only[z7p,y6t (h x hx).2 (h x hx).1]) fun x hx _=>by simp! only[]
 have f1:=z1R (z5b (bs.filter fun x=>ahd x.2 a b))
 have f2:=z1R (z5b (bs.filter fun x=>ahd x.2 b a))
 have t1:D.lst ((bs.filter fun x=>ahd x.2 a b).map z1H)=z3Z (bs.filter fun x=>ahd x.2 a b):=rfl
 have t2:D.lst ((bs.filter fun x=>ahd x.2 b a).map z1H)=z3Z (bs.filter fun x=>ahd x.2 b a):=rfl
 have v1:=z7j (bs.filter fun x=>ahd x.2 a b) (aF (aW _ _) hl)
 have v2:=z7j (bs.filter fun x=>ahd x.2 b a) (aF (aW _ _) hl)
 simp! only[y6S,z9s,z2e hl',c1,c2,f1,f2,t1,t2,v1,v2,z0c,y7K hab bs h]
theorem x0U(x:Int)(m:Nat):z2F [.int x,.int (m:Int)]=some (.bl (decide (0≤x)&&decide (x<(m:Int)))):=by
 refine z0p rfl ?_
 have c:chO leI ltI (some (.int 0)) (some (.int x)) (some (.int (m:Int)))=some (.bl (decide (0≤x)&&decide (x<(m:Int)))):=x1A ea_le ea_lt
 simp_all! only[z5f,c,z0c]
def tk(m:Nat):List Int->List Int->Bool
 |_,[]=>true
 |p,x::r=>((decide (0≤x)&&decide (x<(m:Int))) && !p.contains x)&&tk m (p++[x]) r
theorem y8F{m:Nat}:∀{o p:List Int},(∀x∈o,0≤x∧x<(m:Int))->o.Nodup->(∀x∈o,x∉p)->tk m p o=true
 |[],_,_,_,_=>rfl
 |x::r,p,h1,h2,h3=>by
  have hx:=h1 x af
  have nd:=aw.mp h2
  have hp:=h3 x af
  have ih:=y8F (m:=m) (o:=r) (p:=p++[x]) (fun y hy=>h1 y (ae _ hy)) nd.2 fun y hy z=>by
   rcases ar.mp z with z | z
   ·exact h3 y (ae _ hy) z
   ·rw[aq]at z;exact nd.1 (z ▸ hy)
  show(((decide (0≤x)&&decide (x<(m:Int))) && !p.contains x)&&tk m (p++[x]) r)=true
  have hc:p.contains x=false:=by rw[←Bool.not_eq_true,aU];exact hp
  rw[ih,hc,decide_eq_true hx.1,decide_eq_true hx.2]
  rfl
def y0r(m:Nat)(o:List Int):Bool:=decide ((o.length:Int)=(m:Int))&&tk m [] o
theorem y3Z{p:List Int}{x:Int}:inK (.int x) (y0F p)=some (p.contains x):=by
 show some (y0J (p.map Sum.inl) (.inl x))=_
 congr 1
 unfold y0J
 rw[cE,cO]
 congr 1
 funext y
 show decide ((Sum.inl y:Key)=Sum.inl x)=(x==y)
 by_cases h:y=x
 ·subst h;simp
 ·have h1:decide ((Sum.inl y:Key)=Sum.inl x)=false:=decide_eq_false fun z=>h (by cases z;rfl)
  have h2:(x==y)=false:=by rw[beq_eq_false_iff_ne];exact fun z=>h z.symm
  rw[h1,h2]
theorem z9Q{i:Nat}{b:SS->Option Out}{m:Nat}{d:D}(J:List Int->SS->Prop):∀{o p:List Int} {s:SS},p.length+o.length≤1000000->J p s →
  (∀p x s,p.length≤1000000->J p s->hol (b (s.set i (some (.sh (.int x))))) fun r=>if(((decide (0≤x)&&decide (x<(m:Int))) && !p.contains x))=true then ∃s',r = .nx s'∧J (p++[x]) s' else r = .rt d) →
  hol (z8X i b (o.map .int) s) fun r=>if tk m p o=true then ∃s' p',r = .nx s'∧J p' s' else r = .rt d
 |[],p,s,_,h0,_=>⟨_,rfl,(if_pos rfl).mpr ⟨s,p,rfl,h0⟩⟩
 |x::r,p,s,hn,h0,hs=>by
  have hn:p.length+(r.length+1)≤1000000:=hn
  obtain⟨o,e,q⟩:=hs p x s (by omega) h0
  rw[ay]
  unfold z8X
  rw[e]
  show hol _ fun q=>if(((decide (0≤x)&&decide (x<(m:Int))) && !p.contains x)&&tk m (p++[x]) r)=true then _ else _
  cases hc:((decide (0≤x)&&decide (x<(m:Int))) && !p.contains x)with
  |true=>
   rw[hc,if_pos rfl]at q
   obtain⟨s1,rfl,h1⟩:=q
   rw[dZ]
   exact z9Q J (by simp;omega) h1 hs
  |false=>
   rw[hc,if_neg ak]at q
   subst q
   rw[dU]
   exact⟨_,rfl,(if_neg ak).mpr rfl⟩
theorem y7E{m:Nat}{o:List Int}(hl:o.length≤1000):z0P [z3g o,.int (m:Int)]=some (.bl (y0r m o)):=by
 refine z0p rfl ?_
 have t0:D.dct [] []=y0F []:=rfl
 unfold y0r
 cases hd:decide ((o.length:Int)=(m:Int))with
 |false=>
  simp_all! only[z1c,y7Y,hd,z0c]
 |true=>
  simp_all! only[z1c,y7Y,hd,t0,seq_ord]
  obtain⟨r,e,q⟩:=z9Q (i:=3) (m:=m) (d:=.bl false) (b:=(z0V (ifO (dOrT (z4h (z0u (z0k z2F [(z0d 3),(z0d 1)]))) (x0j (z0d 3) (z0d 2))) (z3m (dC (.bl false))) z1T) (dput 2 (z0d 3) (dC (.bl true))))) (fun p s=>∃o3,s=[some (.sh (z3g o)),some (.sh (.int (m:Int))),some (.ow (y0F p)),o3]) (o:=o) (p:=[]) (s:=[some (.sh (z3g o)),some (.sh (.int (m:Int))),some (.ow (y0F [])),none]) (by simp;omega) ⟨_,rfl⟩ (by
   rintro p x s hp ⟨o3,rfl⟩
   have th:=x0U x m
   cases h1:(decide (0≤x)&&decide (x<(m:Int)))with
   |false=>
    rw[h1]at th
    simp_all! only[th,z0c,eW,if_false]
   |true=>
    rw[h1]at th
    cases h2:p.contains x with
    |true=>
     simp_all! only[th,y3Z,h2,z0c,eW,if_false]
    |false=>
     have hx:x∉p:=fun z=>by rw[aU.mpr z]at h2;cases h2
     simp_all! only[th,y3Z,h2,x1s hx hp,z0c,if_true]
     exact⟨_,rfl,_,rfl⟩)
  rw[e]
  cases hk:tk m [] o with
  |true=>
   rw[hk,if_pos rfl]at q
   obtain⟨s',p',rfl,o3,rfl⟩:=q
   simp_all! only[z0c]
  |false=>
   rw[hk,if_neg ak]at q
   subst q
   simp_all! only[z0c]
theorem y5E{m:Nat}{o:List Int}(h:o.Perm (z7y m)):y0r m o=true:=by
 have hl:o.length=m:=by have:=h.length_eq;simpa[z7y] using this
 unfold y0r
 rw[hl,decide_eq_true rfl,y8F (fun x hx=>x1o (h.mem_iff.mp hx)) (h.nodup_iff.mpr y4P) fun _ _ z=>by cases z]
 rfl
theorem y5F{m:Nat}(hm:m≤1000){bs:List (Int×List Int)}(hl:bs.length≤1000000)(g:∀b∈bs,b.2.length≤1000∧y0r m b.2=true):z9B [z3Z bs,.int (m:Int)]=some (if z5m bs % 2=0 then .exc 2 else .val .non):=by
 have vo:=z7j bs hl
 have dm2:z4y (.int (z5m bs)) (.int 2)=some (.int (z5m bs % 2)):=z2D (by omega)
 have loop:hol (z8X 2 (ifO (z4h (z0u (z0k z0P [(d2 ixD (z0d 2) (dC (.int 1))),(z0d 1)]))) (z4Y 1 (dC (.str "the order of a ballot does not tell each thing once and nothing else"))) z1T) (bs.map z1H) [some (.sh (z3Z bs)),some (.sh (.int (m:Int))),none]) fun o=>∃s,o = .nx s∧∃o2,s=[some (.sh (z3Z bs)),some (.sh (.int (m:Int))),o2]:=by
  refine z3i (fun pre s=>∃o2,s=[some (.sh (z3Z bs)),some (.sh (.int (m:Int))),o2]) ⟨_,rfl⟩ ?_ fun s z=>⟨s,rfl,z⟩
  rintro pre b post e s ⟨o2,rfl⟩
  have hb:=g b (by rw[e];simp)
  have t:=y7E (m:=m) hb.1
  rw[hb.2]at t
  simp_all! only[z7p,t,z0c]
  exact⟨_,rfl⟩
 by_cases hz:z5m bs % 2=0
 ·rw[if_pos hz]
  refine runX_ex rfl ?_
  have d0:decide (z5m bs % 2=0)=true:=decide_eq_true hz
  simp! only[z9l,z9s]
  refine z0z loop ?_
  rintro s ⟨o2,rfl⟩
  simp! only[vo,dm2,d0,z0c]
  exact⟨_,rfl⟩
 ·rw[if_neg hz]
  refine runX_nx rfl ?_
  have d0:decide (z5m bs % 2=0)=false:=decide_eq_false hz
  simp! only[z9l,z9s]
  refine z0z loop ?_
  rintro s ⟨o2,rfl⟩
  simp! only[vo,dm2,d0,z0c]
  exact⟨_,rfl⟩
structure Good2(m:Nat)(b:Int×List Int):Prop where
 perm:b.2.Perm (z7y m)
theorem Good2.mem{m:Nat}{b:Int×List Int}(h:Good2 m b){k:Nat}(hk:k<m):((k:Nat):Int)∈b.2:=h.perm.mem_iff.mpr (aO.mpr ⟨k,ai.mpr hk,rfl⟩)
theorem Good2.len{m:Nat}{b:Int×List Int}(h:Good2 m b):b.2.length=m:=by
 have:=h.perm.length_eq
 simpa[z7y] using this
theorem y7V{m:Nat}(hm:m≤1000){bs:List (Int×List Int)}(hl:bs.length≤1000000)(g:∀b∈bs,Good2 m b){i:Nat}(hi:i<m):z6k [z3Z bs,.int (m:Int),.int (i:Int)]=some (z5a ((ad m).map fun j=>!decide (i=j)&&decide (0<z4x bs i j))):=by
 refine z0p rfl ?_
 have hr:x0R (some (.int (m:Int)))=some (z2h 0 m):=by rw[z6X (by omega)];rfl
 have hl2:((ad m).map nD).length≤1000000:=by rw[ah,aS];omega
 have c:z0Z (z1J z4C (x0g (d2 neD (z0d 2) (z0d 3)) (d2 gtI (z0k y1I [z0d 0,z0d 2,z0d 3]) (dC (.int 0)))) [some (z3Z bs),some (.int (m:Int)),some (.int (i:Int))]) ((ad m).map nD)=some (((ad m).map fun j=>!decide (i=j)&&decide (0<z4x bs i j)).map bD):=by
  rw[aK]
  refine z1C (fun j:Nat=>bD (!decide (i=j)&&decide (0<z4x bs i j))) fun j hj=>?_
  have hj:=ai.mp hj
  by_cases h:i=j
  ·subst h
   simp_all! only[nD,bD]
  ·have hab:(i:Int)≠(j:Int):=by omega
   have d:decide ((i:Int)=(j:Int))=false:=decide_eq_false hab
   have d':decide (i=j)=false:=decide_eq_false h
   have l:=lead_eq bs hl hab fun x hx=>⟨(g x hx).mem hi,(g x hx).mem hj⟩
   simp_all! only[nD,bD,d,d',l]
 have fl:=z1R (z2Y ((ad m).map fun j=>!decide (i=j)&&decide (0<z4x bs i j)))
 simp! only[z9L,hr,z1p,z2e hl2,c,fl,z0c]
 rfl
theorem tabL_sq{m:Nat}{bs:List (Int×List Int)}:Sq m (y1O m bs):=by
 have:=z6G (th:=ad m) (f:=fun i j=>!decide (i=j)&&decide (0<z4x bs i j))
 rwa [aS]at this
theorem y4Y{m:Nat}(hm:m≤1000){bs:List (Int×List Int)}(hl:bs.length≤1000000)(g:∀b∈bs,Good2 m b)(ho:z5m bs % 2=1):z2E [z3Z bs,.int (m:Int)]=some (.val (z0F (y1O m bs))):=by
 refine y2g rfl ?_
 have ha:=y5F hm hl (fun b hb=>⟨by rw[(g b hb).len];exact hm,y5E (g b hb).perm⟩)
 rw[if_neg (by omega)]at ha
 simp! only[z5g,ha,z1u (show m≤1000000 by omega),z1p]
 rw[z5M (fun i:Nat=>z5a ((ad m).map fun j=>!decide (i=j)&&decide (0<z4x bs i j))) (by simp;omega) fun i hi=>by
  have:=y7V hm hl g (ai.mp hi)
  simp! only[nD,this]]
 simp! only[z0c]
 unfold y1O z0J z0F
 rw[aK]
 rfl
theorem y3X{o:List Int}:(z3g o).imm=true:=z2X o
theorem y4y{x y:Int}(hab:x≠y):∀{bs:List (Int×List Int)},(∀b∈bs,x∈b.2∧y∈b.2)->z4x bs y x = -z4x bs x y
 |[],_=>rfl
 |b::bs,h=>by
  have ih:=y4y hab (bs:=bs) fun c hc=>h c (ae _ hc)
  obtain⟨h1,h2⟩:=h b af
  have e:∀u v,z4x (b::bs) u v=(if ahd b.2 u v=true then b.1 else -b.1)+z4x bs u v:=fun u v=>rfl
  rw[e,e,ih,y7Q h1 h2 hab]
  cases ahd b.2 x y <;> simp <;> omega
theorem z5k{m:Nat}{bs:List (Int×List Int)}{i j:Nat}(hi:i<m)(hj:j<m):at2 (y1O m bs) i j=(!decide (i=j)&&decide (0<z4x bs (i:Int) (j:Int))):=at_grid hi hj
theorem z6I{m:Nat}{bs:List (Int×List Int)}(hg:∀b∈bs,Good2 m b)(ho:z5m bs % 2=1):Full m (y1O m bs):=by
 refine⟨tabL_sq,fun i hi=>by rw[z5k hi hi];simp,fun i hi j hj hij=>?_⟩
 have an:=y4y (x:=(j:Int)) (y:=(i:Int)) (by omega) (bs:=bs) fun b hb=>⟨(hg b hb).mem hj,(hg b hb).mem hi⟩
 have od:=y9A (a:=(j:Int)) (b:=(i:Int)) bs
 rw[z5k hi hj,z5k hj hi,decide_eq_false hij,decide_eq_false (Ne.symm hij),an]
 by_cases q:0<z4x bs (j:Int) (i:Int)
 ·rw[decide_eq_true q,decide_eq_false (by omega)];rfl
 ·rw[decide_eq_false q,decide_eq_true (by omega)];rfl
theorem x0t{x y:List Int}{p:Nat}(h:p<y.length):((x++[y[p]])++y.eraseIdx p).Perm (x++y):=by
 rw[aR]
 refine List.Perm.append_left x ?_
 show(y[p]::y.eraseIdx p).Perm y
 rw[List.eraseIdx_eq_take_drop_succ]
 have e:y=y.take p++y[p]::y.drop (p+1):=by
  rw[←aM h,bS]
 exact(List.perm_middle.symm).trans (by rw[←e])
theorem x1e{m:Nat}(hm:m≤60)(c:Int):hol (z2j [.int c,.int (m:Int)]) fun d=>∃o,d=z3g o∧o.Perm (z7y m):=by
 refine z9V rfl ?_
 have hr:x0R (some (.int (m:Int)))=some (z2h 0 m):=by rw[z6X (by omega)];rfl
 have sm:y0u (some (z2h 0 m))=some (z2h 0 m):=by first | exact y3F (by rw[z1p];simp;omega) | rfl
 have rl:z2h 0 m=(z7y m).map D.int:=by
  have:=y7t (m:=m)
  unfold z3g at this
  exact D.tup.inj this
 have fl:=z1R (z2X (z7y m))
 rw[rl]at hr sm
 simp! only[z3w,hr,sm,fl,z6q]
 refine z0z (I:=fun s=>∃(o:List Int) (c:Int),o.Perm (z7y m)∧s=[some (.sh (.int c)),some (.sh (.int (m:Int))),some (.ow (.lst [])),some (.ow (.lst (o.map .int)))]) ?_ ?_
 ·refine z3s (fun k s=>∃(x y:List Int) (c:Int),y.length=k∧(x++y).Perm (z7y m)∧s=[some (.sh (.int c)),some (.sh (.int (m:Int))),some (.ow (.lst (y.map .int))),some (.ow (.lst (x.map .int)))]) (n:=m) ⟨[],z7y m,c,by simp[z7y],List.Perm.refl _,rfl⟩ ?_ (by omega)
  rintro k s ⟨x,y,c,hk,hp,rfl⟩
  have hxl:x.length+y.length=m:=by have:=hp.length_eq;simpa[z7y] using this
  have ln:z2g [.lst (y.map D.int)]=some (.int (y.length:Int)):=by rw[z9p,ah]
  cases y with
  |nil=>
   have gt:gtI (.int ((([]:List Int).length:Nat):Int)) (.int 0)=some (.bl false):=by rw[x0p];rfl
   refine⟨false,by simp! only[ln];rfl,fun _=>⟨_,rfl,x,c,by simpa using hp,rfl⟩,(fun h=>nomatch h)⟩
  |cons y0 yr=>
   obtain⟨y,hy⟩:∃y,y=y0::yr:=⟨_,rfl⟩
   have hpos:0<y.length:=by rw[hy];simp
   rw[←hy]at hk hp hxl ln ⊢
   have gt:gtI (.int (y.length:Int)) (.int 0)=some (.bl true):=by rw[x0p,decide_eq_true (by omega)]
   refine⟨true,by simp! only[ln,gt],(fun h=>nomatch h),fun _=>⟨y.length - 1,by omega,?_⟩⟩
   obtain⟨p,ep,hpl⟩:=z8M (x:=c) (n:=y.length) hpos
   have md:z4y (.int c) (.int (y.length:Int))=some (.int (p:Int)):=by rw[z2D (by omega),ep]
   have pk:=popK_eq (i:=3) (j:=2) (s:=[some (.sh (.int c)),some (.sh (.int (m:Int))),some (.ow (.lst (y.map .int))),some (.ow (.lst (x.map .int)))]) (f:=d2 z4y (z0d 0) (z0k z2g [(z0d 2)])) (x:=x) (y:=y) (p:=p) rfl rfl (by simp! only[ln,md]) hpl (by omega) (by omega)
   have ln2:z2g [.lst ((y.eraseIdx p).map D.int)]=some (.int ((y.eraseIdx p).length:Int)):=by rw[z9p,ah]
   have el:(y.eraseIdx p).length=y.length - 1:=List.length_eraseIdx_of_lt hpl
   have dv:∃z:Int,y5P (.int c) (.int (((y.eraseIdx p).length:Int)+1))=some (.int z):=⟨_,y0H ⟨by omega,by omega⟩⟩
   obtain⟨z,dv⟩:=dv
   have pp:=(x0t (x:=x) hpl).trans hp
   obtain⟨X,hX⟩:∃X,X=x++[y[p]]:=⟨_,rfl⟩
   obtain⟨Y,hY⟩:∃Y,Y=y.eraseIdx p:=⟨_,rfl⟩
   rw[←hX,←hY]at pk pp
   rw[←hY]at ln2 dv el
   simp! only[pk,ln2,dv,z0c]
   exact⟨X,Y,z,el,pp,rfl⟩
 ·rintro s ⟨o,c,hp,rfl⟩
  have tu:tupF [.lst (o.map D.int)]=some (z3g o):=rfl
  have im:=y3C (d:=z3g o) y3X
  simp! only[tu,im,z0c]
  exact⟨_,rfl,o,rfl,hp⟩
def upO(o:List Int)(t:Int):List Int:=o.take (plc o t - 1)++(t::o[plc o t - 1]?.toList)++o.drop (plc o t+1)
theorem ix_ordN{o:List Int}{k:Nat}(h:k<o.length):ixD (z3g o) (.int (k:Int))=some (.int o[k]):=by
 show atI (o.map D.int) (k:Int)=_
 exact z1M (by rw[ac (by simpa using h),bY])
theorem y4m{x y:List Int}(h:x.length+y.length≤1000000):catT (z3g x) (z3g y)=some (z3g (x++y)):=by
 unfold z3g
 rw[aD]
 exact if_pos (z1X (by simpa using h))
theorem z6U{o:List Int}{t:Int}(hl:o.length≤1000)(ht:t∈o)(hp:plc o t≠0):z1h [z3g o,.int t]=some (.val (z3g (upO o t))):=by
 refine y2g rfl ?_
 have ti:=y2J ht
 have lt:=y0K ht
 obtain⟨p,hpp⟩:∃p,plc o t=p+1:=⟨plc o t - 1,by omega⟩
 have up:upO o t=o.take p++[t,o[p]'(by omega)]++o.drop (p+2):=by
  unfold upO
  rw[hpp,c8,ac (by omega)]
  rfl
 rw[hpp]at ti lt
 have d0:eqD (.int ((p+1:Nat):Int)) (.int 0)=some (.bl false):=by rw[y6R,decide_eq_false (by omega)]
 have s1:x2z (.int ((p+1:Nat):Int)) (.int 1)=some (.int (p:Int)):=by rw[y6k];congr 2;omega
 have a1:y3L (.int ((p+1:Nat):Int)) (.int 1)=some (.int ((p+2:Nat):Int)):=by rw[y4F];congr 2
 have c1:x0v (some (z3g o)) (some none) (some (some (p:Int)))=some (z3g (o.take p)):=by
  show some (D.tup (z4W (o.map D.int) none (some (p:Int))))=_
  rw[y1f (by rw[ah];omega),←c4]
  rfl
 have c2:x0v (some (z3g o)) (some (some ((p+2:Nat):Int))) (some none)=some (z3g (o.drop (p+2))):=by
  show some (D.tup (z4W (o.map D.int) (some ((p+2:Nat):Int)) none))=_
  rw[y0S,←c5]
  rfl
 have i1:=ix_ordN (o:=o) (k:=p) (by omega)
 have t2:D.tup [.int t,.int (o[p]'(by omega))]=z3g [t,o[p]'(by omega)]:=rfl
 have k1:=y4m (x:=o.take p) (y:=[t,o[p]'(by omega)]) (by simp;omega)
 have k2:=y4m (x:=o.take p++[t,o[p]'(by omega)]) (y:=o.drop (p+2)) (by simp;omega)
 have im:=y3C (d:=z3g (o.take p++[t,o[p]'(by omega)]++o.drop (p+2))) y3X
 rw[up]
 simp_all! only[z2u,ti,d0,s1,a1,c1,c2,i1,t2,k1,k2,im,z0c]
theorem y1F{r0:List Bool}:∀(r:List Bool) (k:Nat),z0Z (two (z3D (z0u (z0d 2)) (z0d 1) [some (z5a r0)])) (z0r k (r.map bD))=some ((z4c k r).map nD)
 |[],_=>rfl
 |b::r,k=>by
  have ih:=y1F (r0:=r0) r (k+1)
  rw[ay]
  show z0Z _ (.tup [.int (k:Nat),bD b]::z0r (k+1) (r.map bD))=_
  unfold z0Z
  rw[ih]
  have e:two (z3D (z0u (z0d 2)) (z0d 1) [some (z5a r0)]) (.tup [.int (k:Nat),bD b])=some (if b=true then some (nD k)else none):=by
   show z3D _ _ _ _ _=_
   unfold z3D
   have e1:z0u (z0d 2) ([some (z5a r0)]++[some (.int (k:Nat)),some (bD b)])=some b:=rfl
   rw[e1]
   cases b <;> rfl
  have t:z4c k (b::r)=if b=true then k::z4c (k+1) r else z4c (k+1) r:=rfl
  rw[e,t]
  cases b <;> rfl
theorem y0Q(r:List Bool)(hl:r.length≤1000):z1d [z5a r]=some (thD ((ad r.length).filter fun i=>r.getD i false)):=by
 refine z0p rfl ?_
 have e:z4c 0 r=(ad r.length).filter fun i=>r.getD i false:=by
  rw[y8p,eI]
  rfl
 have h0:y5H (z5a r)=some (z0r 0 (r.map bD)):=rfl
 have hl':(z0r 0 (r.map bD)).length≤1000000:=by rw[z6V,ah];omega
 have fl:=z1R (y1g (z4c 0 r))
 simp! only[z2P,h0,z2e hl',y1F,fl,z0c]
 rw[e]
 rfl
theorem z4R{n:Nat}{T:List (List Bool)}(sq:Sq n T)(hn:n≤1000){k:Nat}(hk:k<n):z0D [z0F T,.int (k:Int)]=some (thD ((ad n).filter fun j=>at2 T k j)):=by
 refine z0p rfl ?_
 have hk':k<T.length:=by rw[sq.1];exact hk
 have p:=y0Q (T.getD k []) (by rw[sq.len hk];omega)
 rw[sq.len hk]at p
 simp! only[z4l,z9J hk',p,z0c]
 rfl
theorem z4q{m:Nat}{T:List (List Bool)}(sq:Sq m T){a:Nat}(ha:a<m){th:List Nat}(hl:th.length≤1000)(h:∀x∈th,x<m):z0T [z0F T,.int (a:Int),thD th]=some (.bl (th.all fun j=>at2 T a j)):=by
 refine z0p rfl ?_
 simp! only[z4j,z4M]
 rw[z5M (fun j=>bD (at2 T a j)) hl fun j hj=>by simp! only[nD,ix2 sq ha (h j hj),bD]]
 have e:(th.map fun j=>bD (at2 T a j))=(th.map fun j=>at2 T a j).map bD:=by rw[aK];rfl
 have e2:((th.map fun j=>at2 T a j).all fun b=>b)=th.all fun j=>at2 T a j:=by rw[ef];rfl
 simp! only[e,y7M,e2,z0c]
def ky(n:Nat):Key:=.inl (n:Int)
def stD(ks:List Nat)(vs:List Nat):D:=.dct (ks.map ky) (vs.map nD)
theorem y8x{ks vs:List Nat}{y:Nat}:inK (.int (y:Int)) (stD ks vs)=some (ks.contains y):=by
 show some (y0J (ks.map ky) (.inl (y:Int)))=_
 congr 1
 unfold y0J
 rw[cE,cO]
 congr 1
 funext z
 show decide ((Sum.inl (z:Int):Key)=Sum.inl (y:Int))=(y==z)
 by_cases h:z=y
 ·subst h;simp
 ·have h1:decide ((Sum.inl (z:Int):Key)=Sum.inl (y:Int))=false:=decide_eq_false fun e=>h (by cases e;rfl)
  have h2:(y==z)=false:=by rw[beq_eq_false_iff_ne];exact fun e=>h e.symm
  rw[h1,h2]
theorem st_put{ks vs:List Nat}{x y:Nat}(h:y∉ks)(hl:ks.length≤1000000):y7c (some (stD ks vs)) (some (.int (y:Int))) (some (.int (x:Int)))=some (stD (ks++[y]) (vs++[x])):=by
 show(if z2T (vs.map nD)=true∧(ks.map ky).length<sizeLine then _ else _)=_
 rw[if_pos ⟨y1g vs,by rw[ah,PySem.sizeLine_eq];omega⟩]
 have hh:y0J (ks.map ky) (.inl (y:Int))=false:=by
  have:=y8x (ks:=ks) (vs:=vs) (y:=y)
  have hc:ks.contains y=false:=by rw[←Bool.not_eq_true,aU];exact h
  rw[hc]at this
  exact Option.some.inj this
 unfold y0z y0y stD
 rw[hh,if_neg ak,if_neg ak,aD,aD]
 rfl
inductive Rch(T:List (List Bool))(m a:Nat):Nat->Prop
 |here:Rch T m a a
 |step {x y:Nat}:Rch T m a x->y<m->at2 T x y=true->Rch T m a y
structure Stp(T:List (List Bool))(m a:Nat)(ks:List Nat):Prop where
 nd:ks.Nodup
 lt:∀x∈ks,x<m
 on:a∈ks
 rc:∀x∈ks,Rch T m a x
def Cld(T:List (List Bool))(m:Nat)(ks:List Nat)(x:Nat):Prop:=∀y<m,at2 T x y=true->y∈ks
theorem Stp.add{T:List (List Bool)}{m a x y:Nat}{ks:List Nat}(P:Stp T m a ks)(hx:x∈ks)(hy:y<m)(h:at2 T x y=true)(hn:y∉ks):Stp T m a (ks++[y]):=
 ⟨bT.mpr ⟨P.nd,by simp,fun u hu v hv z=>by rw[aq]at hv;exact hn (hv ▸ z ▸ hu)⟩,fun z hz=>by
  rcases ar.mp hz with q | q
  ·exact P.lt z q
  ·rw[aq.mp q];exact hy,ar.mpr (.inl P.on),fun z hz=>by
  rcases ar.mp hz with q | q
  ·exact P.rc z q
  ·rw[aq.mp q];exact .step (P.rc x hx) hy h⟩
theorem Stp.len{T:List (List Bool)}{m a:Nat}{ks:List Nat}(P:Stp T m a ks):ks.length≤m:=by
 have:=List.Nodup.length_le_of_subset (l₂:=ad m) P.nd fun x hx=>ai.mpr (P.lt x hx)
 simpa using this
theorem x1V{m:Nat}{T:List (List Bool)}(sq:Sq m T)(hm:m≤90){a:Nat}(ha:a<m):hol (z2n [z0F T,.int (a:Int)]) fun d=>∃ks vs,d=stD ks vs∧Stp T m a ks∧∀x∈ks,Cld T m ks x:=by
 refine z9V rfl ?_
 have s0:D.dct [.inl (a:Int)] [.int (a:Int)]=stD [a] [a]:=rfl
 have f0:z6L (some [.int (a:Int)])=some [.int (a:Int)]:=rfl
 simp! only[z3L,s0,f0,th_one]
 refine z0z (I:=fun s=>∃ks vs o3 o4 o5 o6,s=[some (.sh (z0F T)),some (.sh (.int (a:Int))),some (.ow (stD ks vs)),o3,o4,o5,o6]∧Stp T m a ks∧∀x∈ks,Cld T m ks x) ?_ ?_
 ·refine z3s (fun n s=>∃ks vs E o5 o6,s=[some (.sh (z0F T)),some (.sh (.int (a:Int))),some (.ow (stD ks vs)),some (.ow (thD E)),none,o5,o6]∧Stp T m a ks∧(∀x∈E,x∈ks)∧(∀x∈ks,x∉E->Cld T m ks x)∧(E≠[]->m+1≤ks.length+n)) (n:=m) ⟨[a],[a],[a],_,_,rfl,⟨by simp,fun x hx=>by rw[aq.mp hx];exact ha,by simp,fun x hx=>by rw[aq.mp hx];exact .here⟩,fun x hx=>hx,fun x hx hn=>absurd hx hn,fun _=>by simp;omega⟩ ?_ (by omega)
  rintro n s ⟨ks,vs,E,o5,o6,rfl,P,hE,hC,hn⟩
  refine⟨!E.isEmpty,by simp! only[tru_th],fun hz=>?_,fun hz=>?_⟩
  ·have hz:E=[]:=by simpa using hz
   exact⟨_,rfl,ks,vs,_,_,_,_,rfl,P,fun x hx=>hC x hx (by rw[hz];simp)⟩
  ·have hz:E≠[]:=by simpa using hz
   have hn:=hn hz
   have hl:=P.len
   refine⟨n - 1,by omega,?_⟩
   simp! only[z6q,th_nil,z4M]
   refine z0z (I:=fun s=>∃F ws o5 o6,s=[some (.sh (z0F T)),some (.sh (.int (a:Int))),some (.ow (stD (ks++F) ws)),some (.sh (thD E)),some (.ow (thD F)),o5,o6]∧Stp T m a (ks++F)∧∀x∈E,Cld T m (ks++F) x) ?_ ?_
   ·refine z3i (fun pre s=>∃F ws o5 o6,s=[some (.sh (z0F T)),some (.sh (.int (a:Int))),some (.ow (stD (ks++F) ws)),some (.sh (thD E)),some (.ow (thD F)),o5,o6]∧Stp T m a (ks++F)∧∀x∈pre,Cld T m (ks++F) x) ⟨[],vs,_,_,by rw[aL],by rw[aL];exact P,fun x hx=>nomatch hx⟩ ?_ fun s z=>⟨s,rfl,z⟩
    rintro pre x post e s ⟨F,ws,o5,o6,rfl,P1,C1⟩
    have hxE:x∈E:=by rw[e];simp
    have hxk:=hE x hxE
    have hxm:=P.lt x hxk
    simp! only[nD,z4R sq (show m≤1000 by omega) hxm,z4M]
    refine z3i (fun q s=>∃F ws o6,s=[some (.sh (z0F T)),some (.sh (.int (a:Int))),some (.ow (stD (ks++F) ws)),some (.sh (thD E)),some (.ow (thD F)),some (.sh (.int (x:Int))),o6]∧Stp T m a (ks++F)∧(∀x∈pre,Cld T m (ks++F) x)∧∀y∈q,y∈ks++F) ⟨F,ws,_,rfl,P1,C1,fun y hy=>nomatch hy⟩ ?_ ?_
    ·rintro q y r e2 s ⟨F,ws,o6,rfl,P2,C2,Q2⟩
     have hy:y∈(ad m).filter fun j=>at2 T x j:=by rw[e2];simp
     have hy:=ag.mp hy
     have hym:=ai.mp hy.1
     have hl2:=P2.len
     cases hc:(ks++F).contains y with
     |true=>
      simp! only[nD,y8x,hc,b7,Bool.not_true,z0c]
      refine⟨F,ws,_,rfl,P2,C2,fun z hz=>?_⟩
      rcases ar.mp hz with z1 | z1
      ·exact Q2 z z1
      ·rw[aq.mp z1];exact aU.mp hc
     |false=>
      have hny:y∉ks++F:=fun z=>by rw[aU.mpr z]at hc;cases hc
      have im:x1M (some [.int (y:Int)])=some [.int (y:Int)]:=y4b rfl
      have pt:=st_put (vs:=ws) (x:=x) hny (by omega)
      have ap:=app_thV (th:=F) (k:=y) (by rw[aC]at hl2;omega)
      have P3:=P2.add (ar.mpr (.inl hxk)) hym hy.2 hny
      rw[aR]at P3 pt
      have sub:∀z,z∈ks++F->z∈ks++(F++[y]):=fun z hz=>by rw[←aR];exact ar.mpr (.inl hz)
      simp! only[nD,y8x,hc,b7,Bool.not_false,pt,im,ap,z0c]
      refine⟨F++[y],_,_,rfl,P3,fun z hz w hw h=>sub w (C2 z hz w hw h),fun z hz=>?_⟩
      rcases ar.mp hz with z1 | z1
      ·exact sub z (Q2 z z1)
      ·rw[aq.mp z1];simp
    ·rintro s ⟨F,ws,o6,rfl,P2,C2,Q2⟩
     refine⟨F,ws,_,_,rfl,P2,fun z hz=>?_⟩
     rcases ar.mp hz with z1 | z1
     ·exact C2 z z1
     ·rw[aq.mp z1]
      exact fun y hy h=>Q2 y (ag.mpr ⟨ai.mpr hy,h⟩)
   ·rintro s ⟨F,ws,o5,o6,rfl,P1,C1⟩
    simp! only[z0c]
    refine⟨ks++F,ws,F,_,_,rfl,P1,fun x hx=>ar.mpr (.inr hx),fun x hx hnx=>?_,fun hF=>?_⟩
    ·have hxk:x∈ks:=by
      rcases ar.mp hx with z | z
      ·exact z
      ·exact absurd z hnx
     by_cases hxE:x∈E
     ·exact C1 x hxE
     ·exact fun y hy h=>ar.mpr (.inl (hC x hxk hxE y hy h))
    ·have:0<F.length:=bZ.mpr hF
     rw[aC]
     omega
 ·rintro s ⟨ks,vs,o3,o4,o5,o6,rfl,P,C⟩
  simp! only[z0c]
  exact⟨_,rfl,ks,vs,rfl,P,C⟩
open Classical in
noncomputable def rcL(T:List (List Bool))(m a:Nat):List Nat:=(ad m).filter fun x=>decide (Rch T m a x)
theorem rcL_mem{T:List (List Bool)}{m a x:Nat}:x∈rcL T m a↔x<m∧Rch T m a x:=by
 unfold rcL
 rw[ag,ai]
 exact and_congr_right fun _=>@decide_eq_true_iff _ (Classical.propDecidable _)
theorem y9a:∀ks:List Nat,z4U (ks.map ky)=some (ks.map fun n=>((n:Nat):Int))
 |[]=>rfl
 |k::ks=>by
  show(z4U (ks.map ky)).map (fun ns=>(k:Int)::ns)=_
  rw[y9a ks]
  rfl
theorem y4R{m:Nat}{T:List (List Bool)}(sq:Sq m T)(hm:m≤60){a:Nat}(ha:a<m):z3F [z0F T,.int (a:Int)]=some (thD (rcL T m a)):=by
 refine z0p rfl ?_
 obtain⟨d,e,ks,vs,rfl,P,C⟩:=x1V sq (by omega) ha
 have hl:=P.len
 have hin:∀x,x∈ks↔x∈rcL T m a:=fun x=>by
  rw[rcL_mem]
  refine⟨fun h=>⟨P.lt x h,P.rc x h⟩,fun h=>?_⟩
  have:∀y,Rch T m a y->y∈ks:=fun y r=>by
   induction r with
   |here=>exact P.on
   |step r1 hy h ih=>exact C _ ih _ hy h
  exact this x h.2
 have nd2:(rcL T m a).Nodup:=List.Pairwise.filter _ List.nodup_range
 have pm:((rcL T m a).map fun n=>((n:Nat):Int)).Perm (ks.map fun n=>((n:Nat):Int)):=((dQ nd2 P.nd).mpr fun x=>(hin x).symm).map _
 have so:((rcL T m a).map fun n=>((n:Nat):Int)).Pairwise (· ≤ ·):=by
  rw[List.pairwise_map]
  refine List.Pairwise.imp ?_ (List.Pairwise.filter _ List.pairwise_lt_range)
  intro x y h
  omega
 have es:=y8A pm so
 have st:y1j [stD ks vs]=some ((rcL T m a).map nD):=by
  show((z4U (ks.map ky)).bind fun ns=>if ns.length<64 then some ((x1D ns).map D.int)else none)=_
  rw[y9a,av,if_pos (by rw[ah];omega),←es,aK]
  rfl
 simp! only[z6w,e,st,z4r,y1H,z0c]
noncomputable def z7U(T:List (List Bool))(m:Nat):List Nat:=(ad m).map fun a=>(rcL T m a).length
def plL(cs:List Nat)(c:Nat):List Nat:=(cs.zipIdx.filter fun z=>decide ((z.1:Int)=(c:Int))).map fun z=>z.2
theorem plL_mem{cs:List Nat}{c i:Nat}:i∈plL cs c↔cs[i]? = some c:=by
 unfold plL
 rw[aO]
 constructor
 ·rintro⟨z,hz,rfl⟩
  obtain⟨h1,h2⟩:=ag.mp hz
  have h2:z.1=c:=by have:=of_decide_eq_true h2;omega
  have:=dE.mp h1
  rw[this,h2]
 ·intro h
  exact⟨(c,i),ag.mpr ⟨dE.mpr h,decide_eq_true rfl⟩,rfl⟩
theorem y5n{cs:List Nat}(hl:cs.length≤1000)(c:Nat):z1x [thD cs,.int (c:Int)]=some (thD (plL cs c)):=by
 refine z0p rfl ?_
 have cx:z2c (some (z0r 0 (cs.map nD))) (two (z3D (z0Q (d2 eqD (z0d 3) (z0d 1))) (z0d 2) [some (thD cs),some (.int (c:Int))]))=some ((plL cs c).map nD):=by
  rw[x3o (enc:=nD) (fun _ x=>decide ((x:Int)=(c:Int))) (fun i _=>nD i) hl (fun i h=>by simp! only[nD]) fun i h _=>by simp! only[];rfl]
  unfold plL
  rw[aK]
  rfl
 simp! only[z2S,y8m,cx,z4r,y1H,z0c]
def dnL(m:Nat):List Nat:=(ad m).map fun i=>m - i
noncomputable def rgL(T:List (List Bool))(m:Nat):List (List Nat):=((dnL m).filter fun c=>(z7U T m).contains c).map fun c=>plL (z7U T m) c
theorem eo_rngN{i j c:Int}(h:c = -1∧-(2 ^ 61)≤i∧i<2 ^ 61∧-(2 ^ 61)≤j∧j<2 ^ 61):rngN (some (.int i)) (some (.int j)) (some (.int c))=some (y8S i (-1) (i - j).toNat):=if_pos h
theorem x2a{m:Nat}{T:List (List Bool)}(sq:Sq m T)(hm:m≤60):z9G [z0F T]=some (.lst ((rgL T m).map thD)):=by
 refine z0p rfl ?_
 have hcl:(z7U T m).length=m:=by simp[z7U]
 have c1:z2c (some (z2h 0 m)) (z1J z4C (z0k z2g [z0k z3F [z0d 0,z0d 2]]) [some (z0F T),none])=some ((z7U T m).map nD):=by
  rw[z1p,z5M (enc:=nD) (xs:=ad m) (fun a=>nD (rcL T m a).length) (by simp;omega) fun a ha=>by simp! only[nD,y4R sq hm (ai.mp ha),y0Z]]
  unfold z7U
  rw[aK]
  rfl
 have rn:rngN (some (.int (m:Int))) (some (.int 0)) (some (.int (-1)))=some ((dnL m).map nD):=by
  have hz:((m:Int) - 0).toNat=m:=by omega
  have e1:rngN (some (.int (m:Int))) (some (.int 0)) (some (.int (-1)))=some (y8S (m:Int) (-1) ((m:Int) - 0).toNat):=eo_rngN ⟨rfl,by omega,by omega,by omega,by omega⟩
  have e2:y8S (m:Int) (-1) m=(dnL m).map nD:=by
   unfold y8S dnL
   rw[aK]
   refine bh fun i hi=>?_
   have:=ai.mp hi
   have e:(m:Int)+(i:Int)*(-1)=((m - i:Nat):Int):=by omega
   exact congrArg D.int e
  rw[e1,hz,e2]
 have c2:z2c (some ((dnL m).map nD)) (z1J (z0Q (d2 inD (z0d 2) (z0d 1))) (z0k z1x [z0d 1,z0d 2]) [some (z0F T),some (thD (z7U T m))])=some ((rgL T m).map thD):=by
  rw[z8N (enc:=nD) (xs:=dnL m) (fun c=>(z7U T m).contains c) (fun c=>thD (plL (z7U T m) c)) (by simp[dnL];omega) (fun c hc=>by simp! only[nD,x2H]) fun c hc _=>by simp! only[nD,y5n (show(z7U T m).length≤1000 by omega)]]
  unfold rgL
  rw[aK]
  rfl
 simp! only[y2k,z1Z,sq.1,z1u (show m≤1000000 by omega),c1,z4r,y1H,rn,c2,z0c]
theorem y5p{m:Nat}{T:List (List Bool)}(sq:Sq m T)(hm:m≤60)(h0:0<m)(h:m∈z7U T m):z2H [z0F T]=some (thD (plL (z7U T m) m)):=by
 refine z0p rfl ?_
 have e:∃r,rgL T m=plL (z7U T m) m::r:=by
  unfold rgL dnL
  obtain⟨n,rfl⟩:∃n,m=n+1:=⟨m - 1,by omega⟩
  rw[ci,ay,bf]
  have hc:(z7U T (n+1)).contains (n+1 - 0)=true:=aU.mpr h
  rw[hc,if_pos rfl,ay]
  exact⟨_,rfl⟩
 obtain⟨r,hr⟩:=e
 have re:=x2a sq hm
 rw[hr,ay]at re
 have ix:atI (thD (plL (z7U T m) m)::r.map thD) 0=some (thD (plL (z7U T m) m)):=z1M (j:=0) rfl
 simp! only[z5t,re,ix,z0c]
def y5r(T:List (List Bool))(m a b:Nat):Bool:=at2 T a b&&((ad m).filter fun j=>at2 T b j).all fun j=>at2 T a j
theorem y9R{m:Nat}{T:List (List Bool)}(sq:Sq m T)(hm:m≤1000){a b:Nat}(ha:a<m)(hb:b<m):z6p [z0F T,.int (a:Int),.int (b:Int)]=some (.bl (y5r T m a b)):=by
 refine z0p rfl ?_
 have hl:((ad m).filter fun j=>at2 T b j).length≤1000:=by
  have:=aW (fun j=>at2 T b j) (ad m)
  rw[aS]at this
  omega
 have b1:=z4R sq hm hb
 have b2:=z4q sq ha (th:=(ad m).filter fun j=>at2 T b j) hl fun x hx=>ai.mp (ag.mp hx).1
 simp! only[z9k,ix2 sq ha hb,b1,b2,z0c]
 rfl
def y5u(T:List (List Bool))(m a:Nat):Bool:=!(ad m).any fun b=>y5r T m b a
def z9Z(T:List (List Bool))(m:Nat):List Nat:=(ad m).filter fun a=>y5u T m a
theorem y1b{m:Nat}{T:List (List Bool)}(sq:Sq m T)(hm:m≤1000){a:Nat}(ha:a<m):z2q [z0F T,.int (a:Int)]=some (.bl ((ad m).any fun b=>y5r T m b a)):=by
 refine z0p rfl ?_
 have hr:x0R (some (.int (m:Int)))=some (z2h 0 m):=by rw[z6X (by omega)];rfl
 simp! only[z3O,z1Z,sq.1,hr,z1p]
 rw[z5M (fun b=>bD (y5r T m b a)) (by simp;omega) fun j hj=>by simp! only[nD,y9R sq hm (ai.mp hj) ha,bD]]
 have e:((ad m).map fun b=>bD (y5r T m b a))=((ad m).map fun b=>y5r T m b a).map bD:=by rw[aK];rfl
 have e2:(((ad m).map fun b=>y5r T m b a).any fun b=>b)=(ad m).any fun b=>y5r T m b a:=by rw[cE];rfl
 simp! only[e,ea_any,e2,z0c]
theorem z5O{m:Nat}{T:List (List Bool)}(sq:Sq m T)(hm:m≤1000):z1o [z0F T]=some (thD (z9Z T m)):=by
 refine z0p rfl ?_
 have hr:x0R (some (.int (m:Int)))=some (z2h 0 m):=by rw[z6X (by omega)];rfl
 simp! only[z4p,z1Z,sq.1,hr,z1p]
 rw[z8N (fun a=>y5u T m a) nD (by simp;omega) (fun j hj=>by simp! only[nD,y1b sq hm (ai.mp hj)];rfl) fun j hj _=>by simp! only[]]
 have f1:=z1R (y1g (z9Z T m))
 unfold z9Z at f1
 simp! only[f1,z0c]
 rfl
theorem unc_all{m:Nat}{T:List (List Bool)}(F:Full m T){a:Nat}(ha:a<m)(h:y5u T m a=true):∀y<m,Rch T m a y:=fun y hy=>by
 by_cases e:y=a
 ·rw[e];exact .here
 ·cases h1:at2 T a y with
  |true=>exact .step .here hy h1
  |false=>
   have h2:at2 T y a=true:=by rw[F.two y hy a ha e,h1];rfl
   have h:((ad m).any fun b=>y5r T m b a)=false:=by simpa[y5u] using h
   rw[bU]at h
   have h3:=h y (ai.mpr hy)
   unfold y5r at h3
   rw[h2,dZ]at h3
   have h3:(((ad m).filter fun j=>at2 T a j).all fun j=>at2 T y j)=false:=by simpa using h3
   rw[List.all_eq_false]at h3
   obtain⟨j,hj,hn⟩:=h3
   have hj:=ag.mp hj
   have hjm:=ai.mp hj.1
   have hn:at2 T y j=false:=by simpa using hn
   have hjy:j≠y:=fun z=>by rw[z,h1]at hj;cases hj.2
   have h4:at2 T j y=true:=by rw[F.two j hjm y hy hjy,hn];rfl
   exact .step (.step .here hjm hj.2) hy h4
theorem cov_iff{m:Nat}{T:List (List Bool)}{a b:Nat}:y5r T m a b=true↔at2 T a b=true∧∀j<m,at2 T b j=true->at2 T a j=true:=by
 unfold y5r
 rw[aA,aJ]
 refine and_congr_right fun _=>⟨fun h j hj hb=>h j (ag.mpr ⟨ai.mpr hj,hb⟩),fun h j hj=>?_⟩
 have hj:=ag.mp hj
 exact h j (ai.mp hj.1) hj.2
theorem cnt_unc{m:Nat}{T:List (List Bool)}(F:Full m T){a:Nat}(ha:a<m)(h:y5u T m a=true):(z7U T m)[a]? = some m:=by
 have e:rcL T m a=ad m:=by
  unfold rcL
  exact bq.mpr fun x hx=>@decide_eq_true _ (Classical.propDecidable _) (unc_all F ha h x (ai.mp hx))
 unfold z7U
 rw[aB,cC ha]
 show some (rcL T m a).length=_
 rw[e,aS]
def chB(T:List (List Bool)):List Nat->Bool
 |[]=>true
 |a::r=>(r.all fun j=>at2 T a j)&&chB T r
def z4S(T:List (List Bool))(th:List Nat):Bool:=!th.isEmpty&&chB T th
theorem y9T{T:List (List Bool)}:∀{th:List Nat} {k:Nat} {pre:List Nat},pre.length=k->((th.zipIdx k).all fun z=>((pre++th).drop (z.2+1)).all fun j=>at2 T z.1 j)=chB T th
 |[],_,_,_=>rfl
 |a::r,k,pre,h=>by
  have ih:=y9T (T:=T) (th:=r) (k:=k+1) (pre:=pre++[a]) (by simp[h])
  have e:pre++[a]++r=pre++a::r:=by simp
  rw[e]at ih
  rw[List.zipIdx_cons,List.all_cons,ih]
  show((((pre++a::r).drop (k+1)).all fun j=>at2 T a j)&&_)=_
  have e2:(pre++a::r).drop (k+1)=r:=by rw[←h];simp
  rw[e2]
  rfl
theorem y5x{m:Nat}{T:List (List Bool)}(sq:Sq m T){th:List Nat}(hl:th.length≤1000)(h:∀x∈th,x<m):z3X [z0F T,thD th]=some (.bl (z4S T th)):=by
 refine z0p rfl ?_
 by_cases h0:th=[]
 ·subst h0
  have d0:decide ((([]:List Nat).length:Int)=0)=true:=rfl
  simp! only[z3R,y0Z,d0,z0c]
  rfl
 ·have d0:decide ((th.length:Int)=0)=false:=decide_eq_false fun e=>h0 (aT.mp (by omega))
  simp! only[z3R,y0Z,d0,y8m]
  rw[cx2_all (fun k a=>bD ((th.drop (k+1)).all fun j=>at2 T a j)) hl fun i hi=>by
   have c:=z4q sq (h th[i] (bL hi)) (th:=th.drop (i+1)) (by simp;omega) fun x hx=>h x (eK hx)
   have tl:∀o:List Nat,D.lst (o.map nD)=thD o:=fun _=>rfl
   have c:z0T [z0F T,nD th[i],thD (th.drop (i+1))]=_:=c
   simp! only[z9H,tl,c]
   rfl]
  have e:(th.zipIdx.map fun z=>bD ((th.drop (z.2+1)).all fun j=>at2 T z.1 j))=(th.zipIdx.map fun z=>(th.drop (z.2+1)).all fun j=>at2 T z.1 j).map bD:=by rw[aK];rfl
  have e2:((th.zipIdx.map fun z=>(th.drop (z.2+1)).all fun j=>at2 T z.1 j).all fun b=>b)=z4S T th:=by
   unfold z4S
   rw[ef,←y9T (T:=T) (th:=th) (k:=0) (pre:=[]) rfl]
   have:(!th.isEmpty)=true:=by simp[h0]
   rw[this]
   rfl
  simp! only[e,y7M,e2,z0c]
def btL(T:List (List Bool))(m:Nat)(th:List Nat):List Nat:=(ad m).filter fun a=>th.all fun j=>at2 T a j
theorem z7X{m:Nat}{T:List (List Bool)}(sq:Sq m T)(hm:m≤1000){th:List Nat}(hl:th.length≤1000)(h:∀x∈th,x<m):z2d [z0F T,thD th]=some (thD (btL T m th)):=by
 refine z0p rfl ?_
 simp! only[z6y,z1Z,sq.1,z1u (show m≤1000000 by omega),z1p]
 rw[z8N (fun a=>th.all fun j=>at2 T a j) nD (by simp;omega) (fun a ha=>by
  have c:=z4q sq (ai.mp ha) hl h
  simp! only[nD,c]) fun x hx _=>by simp! only[]]
 simp! only[z4r,z0c]
 rfl
theorem y9Q{m:Nat}{T:List (List Bool)}(sq:Sq m T)(hm:m≤1000){th:List Nat}(hl:th.length≤1000)(h:∀x∈th,x<m):z4V [z0F T,thD th]=some (.bl (z4S T th&&decide (((btL T m th).length:Int)=0))):=by
 refine z0p rfl ?_
 simp! only[z8W,y5x sq hl h,z7X sq hm hl h,y0Z,z0c]
def z5D(T:List (List Bool)):Nat->List Nat->List Nat->List (List Nat)
 |0,_,_=>[]
 |_+1,c,[]=>[c]
 |n+1,c,x::f=>((x::f).map fun y=>z5D T n (c++[y]) ((x::f).filter fun z=>at2 T y z)).flatten
def fac:Nat->Nat
 |0=>1
 |n+1=>(n+1)*fac n
theorem x0L(n:Nat):fac n≤fac (n+1):=by
 show fac n≤(n+1)*fac n
 exact Nat.le_mul_of_pos_left _ (by omega)
theorem z6g{a b:Nat}(h:a≤b):fac a≤fac b:=by
 induction h with
 |refl=>exact aj _
 |step _ ih=>exact aF ih (x0L _)
theorem y2L{α:Type}{B:Nat}:∀{L:List (List α)},(∀l∈L,l.length≤B)->L.flatten.length≤L.length*B
 |[],_=>bJ _
 |l::L,h=>by
  have ih:=y2L (L:=L) fun x hx=>h x (ae _ hx)
  have h1:=h l af
  rw[bA,aC,aX,Nat.succ_mul]
  omega
theorem z8C{T:List (List Bool)}{f:List Nat}{y:Nat}(hy:y∈f)(own:at2 T y y=false):(f.filter fun z=>at2 T y z).length<f.length:=by
 rw[List.length_filter_lt_length_iff_exists]
 exact⟨y,hy,by rw[own];exact ak⟩
theorem z6d{T:List (List Bool)}:∀{n:Nat} {c f:List Nat},(∀x∈f,at2 T x x=false)->(z5D T n c f).length≤fac f.length
 |0,_,f,_=>bJ _
 |_+1,c,[],_=>aj _
 |n+1,c,x::f,own=>by
  have:∀l∈(x::f).map fun y=>z5D T n (c++[y]) ((x::f).filter fun z=>at2 T y z),l.length≤fac f.length:=fun l hl=>by
   obtain⟨y,hy,rfl⟩:=aO.mp hl
   refine aF (z6d fun z hz=>own z (ag.mp hz).1) (z6g ?_)
   have:=z8C hy (own y hy)
   rw[aX]at this
   omega
  have:=y2L this
  rw[ah]at this
  exact this
theorem y3w{m:Nat}{T:List (List Bool)}(sq:Sq m T)(own:∀i<m,at2 T i i=false)(hm:m≤8):∀{n:Nat} {c f:List Nat},f.length<n->f.length≤8->c.length+f.length≤100->(∀x∈f,x<m)->z1a n [z0F T,thD c,thD f]=some (.lst ((z5D T n c f).map thD))
 |0,c,f,h,_,_,_=>absurd h (by omega)
 |n+1,c,[],h,h8,hc,hf=>by
  refine y4q rfl ?_
  have tr:z7u (thD [])=some false:=rfl
  simp_all! only[z1I,tr,z0c]
  rfl
 |n+1,c,x::f,h,h8,hc,hf=>by
  refine y4q rfl ?_
  obtain⟨F,hF⟩:∃F,F=x::f:=⟨_,rfl⟩
  have tr:z7u (thD F)=some true:=by rw[hF];rfl
  have e0:z5D T (n+1) c (x::f)=(F.map fun y=>z5D T n (c++[y]) (F.filter fun z=>at2 T y z)).flatten:=by rw[hF];rfl
  rw[e0]
  rw[←hF]at h h8 hc hf ⊢
  have nl:D.lst [] = .lst (([]:List (List Nat)).map thD):=rfl
  have ownF:∀x∈F,at2 T x x=false:=fun x hx=>own x (hf x hx)
  simp_all! only[z1I,tr,z6q,z4M]
  rw[nl]
  refine z0z (I:=fun s=>∃o1 o4,s=[some (.sh (z0F T)),o1,some (.sh (thD F)),some (.ow (.lst ((F.map fun y=>z5D T n (c++[y]) (F.filter fun z=>at2 T y z)).flatten.map thD))),o4]) ?_ ?_
  ·refine z3i (enc:=nD) (fun pre s=>∃o4,s=[some (.sh (z0F T)),some (.ow (thD c)),some (.sh (thD F)),some (.ow (.lst ((pre.map fun y=>z5D T n (c++[y]) (F.filter fun z=>at2 T y z)).flatten.map thD))),o4]) ⟨_,rfl⟩ ?_ fun s ⟨o4,e⟩=>⟨s,rfl,_,_,e⟩
   rintro pre y post e s ⟨o4,rfl⟩
   have hy:y∈F:=by rw[e];simp
   have t1:D.lst [.int (y:Int)]=thD [y]:=rfl
   have ct:=x2I (a:=c) (b:=[y]) (by simp;omega)
   have cx:z2c (some (F.map nD)) (z1J (z0u (d2 ixD (d2 ixD (z0d 0) (z0d 4)) (z0d 5))) (z0d 5) [some (z0F T),some (thD c),some (thD F),some (.lst ((pre.map fun y=>z5D T n (c++[y]) (F.filter fun z=>at2 T y z)).flatten.map thD)),some (.int (y:Int))])=some ((F.filter fun z=>at2 T y z).map nD):=
    z8N (fun z=>at2 T y z) nD (by omega) (fun z hz=>by
     simp! only[nD,ix2 sq (hf y hy) (hf z hz)]) fun z _ _=>by simp! only[]
   have fl:=z8C hy (ownF y hy)
   have ih:=y3w sq own hm (n:=n) (c:=c++[y]) (f:=F.filter fun z=>at2 T y z) (by omega) (by omega) (by simp;omega) fun z hz=>hf z (ag.mp hz).1
   have l1:(pre.map fun y=>z5D T n (c++[y]) (F.filter fun z=>at2 T y z)).flatten.length≤40320*8:=by
    refine aF (y2L (B:=40320) fun l hl=>?_) ?_
    ·obtain⟨z,hz,rfl⟩:=aO.mp hl
     refine aF (z6d fun q hq=>ownF q (ag.mp hq).1) ?_
     exact aF (z6g (show _≤8 from aF (aW _ _) h8)) (by decide)
    ·rw[ah]
     have:pre.length≤8:=by
      have:=congrArg List.length e
      simp at this
      omega
     exact aF (Nat.mul_le_mul_right _ this) (by decide)
   have l2:(z5D T n (c++[y]) (F.filter fun z=>at2 T y z)).length≤40320:=by
    refine aF (z6d fun q hq=>ownF q (ag.mp hq).1) ?_
    exact aF (z6g (show _≤8 from aF (aW _ _) h8)) (by decide)
   obtain⟨Y,hY⟩:∃Y,Y=z5D T n (c++[y]) (F.filter fun z=>at2 T y z):=⟨_,rfl⟩
   obtain⟨Z,hZ⟩:∃Z,Z=(pre.map fun y=>z5D T n (c++[y]) (F.filter fun z=>at2 T y z)).flatten:=⟨_,rfl⟩
   obtain⟨cy,hcy⟩:∃cy,cy=c++[y]:=⟨_,rfl⟩
   rw[←hcy]at ih ct
   rw[←hcy]at hY
   rw[←hcy]at l2
   rw[←hY]at ih l2
   rw[←hZ]at l1 cx ⊢
   have ex:extV (some (.lst (Z.map thD))) (some (.lst (Y.map thD)))=some (.lst ((Z++Y).map thD)):=by
    rw[eo_ext (by simp;omega),aD]
   have tl:∀W:List Nat,D.lst (W.map nD)=thD W:=fun _=>rfl
   simp! only[nD,t1,ct,z4r,tl,z4M,cx,ih,ex,z0c]
   have key:((pre++[y]).map fun y=>z5D T n (c++[y]) (F.filter fun z=>at2 T y z)).flatten=Z++Y:=by
    rw[aD,List.flatten_append,←hZ]
    congr 1
    show z5D T n (c++[y]) (F.filter fun z=>at2 T y z)++[]=Y
    rw[aL,hY,hcy]
   rw[key]
   exact⟨_,rfl⟩
  ·rintro s ⟨o1,o4,rfl⟩
   simp! only[z0c]
structure Ant(m:Nat)(T:List (List Bool)):Prop where
 sq:Sq m T
 own:∀i<m,at2 T i i=false
 ant:∀i<m,∀j<m,at2 T i j=true->at2 T j i=false
theorem z6f{T:List (List Bool)}{a:Nat}{r:List Nat}:chB T (a::r)=(r.all (fun j=>at2 T a j)&&chB T r):=rfl
theorem z9M{T:List (List Bool)}:∀{a b:List Nat},chB T (a++b)=(chB T a&&chB T b&&a.all fun x=>b.all fun y=>at2 T x y)
 |[],b=>by simp[chB]
 |x::a,b=>by
  have ih:=z9M (T:=T) (a:=a) (b:=b)
  rw[List.cons_append,z6f,z6f,List.all_append,ih,List.all_cons]
  cases a.all (fun j=>at2 T x j) <;> cases b.all (fun j=>at2 T x j) <;> cases chB T a <;> cases chB T b <;> simp
theorem chB_iff{T:List (List Bool)}{th:List Nat}:chB T th=true↔th.Pairwise fun x y=>at2 T x y=true:=by
 induction th with
 |nil=>simp[chB]
 |cons a r ih=>rw[z6f,aA,ih,ba,aJ]
theorem z8z{T:List (List Bool)}:∀{n:Nat} {c f e:List Nat},e∈z5D T n c f->∃q,e=c++q∧∀x∈q,x∈f
 |0,_,_,_,h=>nomatch h
 |_+1,c,[],e,h=>by
  have:e=c:=by simpa[z5D] using h
  exact⟨[],by simp[this],fun _ z=>nomatch z⟩
 |n+1,c,x::f,e,h=>by
  obtain⟨l,hl,he⟩:=dq.mp (show e∈((x::f).map fun y=>z5D T n (c++[y]) ((x::f).filter fun z=>at2 T y z)).flatten from h)
  obtain⟨y,hy,rfl⟩:=aO.mp hl
  obtain⟨q,rfl,hq⟩:=z8z he
  refine⟨y::q,by simp,fun z hz=>?_⟩
  rcases ao.mp hz with w | w
  ·rw[w];exact hy
  ·exact(ag.mp (hq z w)).1
theorem y4G{T:List (List Bool)}:∀{n:Nat} {c f r:List Nat},f.length<n->(∀x∈f,at2 T x x=false)->chB T (c++r)=true->(∀x∈r,x∈f)->(∀y∈f,∀x∈c,at2 T x y=true)->∃e∈z5D T n c f,(∀x∈c++r,x∈e)∧chB T e=true
 |0,_,_,_,h,_,_,_,_=>absurd h (by omega)
 |n+1,c,[],r,_,_,hc,hr,_=>by
  have:r=[]:=by
   cases r with
   |nil=>rfl
   |cons x r=>exact absurd (hr x af) (by simp)
  subst this
  rw[aL]at hc ⊢
  exact⟨c,by simp[z5D],fun x hx=>hx,hc⟩
 |n+1,c,x::f,r,hn,own,hc,hr,hb=>by
  have go:∀(y:Nat) (r':List Nat),y∈x::f->chB T ((c++[y])++r')=true->(∀z∈r',z∈x::f)->∃e∈z5D T (n+1) c (x::f),(∀z∈(c++[y])++r',z∈e)∧chB T e=true:=fun y r' hy hc' hr'=>by
   have fl:=z8C hy (own y hy)
   have hyr:∀z∈r',at2 T y z=true:=fun z hz=>by
    rw[aR,z9M]at hc'
    have:=(ax.mp (ax.mp hc').1).2
    rw[List.singleton_append,z6f]at this
    exact aJ.mp (ax.mp this).1 z hz
   obtain⟨e,he,h1,h2⟩:=y4G (n:=n) (c:=c++[y]) (f:=(x::f).filter fun z=>at2 T y z) (r:=r') (by omega) (fun z hz=>own z (ag.mp hz).1) hc' (fun z hz=>ag.mpr ⟨hr' z hz,hyr z hz⟩) (fun z hz w hw=>by
    rcases ar.mp hw with q | q
    ·exact hb z (ag.mp hz).1 w q
    ·rw[aq.mp q]
     have:=(ag.mp hz).2
     simpa using this)
   exact⟨e,dq.mpr ⟨_,aO.mpr ⟨y,hy,rfl⟩,he⟩,h1,h2⟩
  cases r with
  |nil=>
   rw[aL]at hc
   obtain⟨e,he,h1,h2⟩:=go x [] af (by
    rw[aL,z9M,hc]
    rw[aA,aJ]
    refine⟨by simp[chB],fun z hz=>?_⟩
    simp[hb x af z hz]) (fun z hz=>nomatch hz)
   exact⟨e,he,fun z hz=>h1 z (by simp at hz ⊢;exact .inl hz),h2⟩
  |cons y r=>
   obtain⟨e,he,h1,h2⟩:=go y r (hr y af) (by rw[aR];exact hc) fun z hz=>hr z (ae _ hz)
   exact⟨e,he,fun z hz=>h1 z (by rw[aR];exact hz),h2⟩
def insC(T:List (List Bool))(o:Nat)(c:List Nat):List Nat:=(c.filter fun x=>at2 T x o)++[o]++c.filter fun x=>at2 T o x
def y1c(T:List (List Bool))(a o:Nat)(found:List (List Nat)):List (List Nat):=if at2 T a o=true then found++(found.map (insC T o)).filter (z4S T)else found
def hdL(T:List (List Bool))(a:Nat):Nat->List (List Nat)
 |0=>[[a]]
 |k+1=>y1c T a k (hdL T a k)
theorem hd_ok{m:Nat}{T:List (List Bool)}{a:Nat}(ha:a<m)(own:at2 T a a=false):∀{k:Nat},k≤m->∀c∈hdL T a k,chB T c=true∧(∃r,c=a::r)∧∀x∈c,x<m
 |0,_,c,hc=>by
  have:c=[a]:=by simpa[hdL] using hc
  subst this
  exact⟨by simp[chB],⟨[],rfl⟩,fun x hx=>by rw[aq.mp hx];exact ha⟩
 |k+1,hk,c,hc=>by
  have ih:=hd_ok (k:=k) ha own (by omega)
  have hc:c∈y1c T a k (hdL T a k):=hc
  unfold y1c at hc
  split at hc
  ·rename_i hak
   rcases ar.mp hc with z | z
   ·exact ih c z
   ·obtain⟨hz,hch⟩:=ag.mp z
    obtain⟨c0,h0,rfl⟩:=aO.mp hz
    obtain⟨_,⟨r,rfl⟩,hlt⟩:=ih c0 h0
    refine⟨(ax.mp hch).2,?_,fun x hx=>?_⟩
    ·unfold insC
     rw[bf,if_pos hak]
     exact⟨_,rfl⟩
    ·unfold insC at hx
     rcases ar.mp hx with w | w
     ·rcases ar.mp w with w | w
      ·exact hlt x (ag.mp w).1
      ·rw[aq.mp w];omega
     ·exact hlt x (ag.mp w).1
  ·exact ih c hc
theorem x3l{m:Nat}{T:List (List Bool)}(A:Ant m T){a:Nat}{r:List Nat}(hc:chB T (a::r)=true)(hlt:∀x∈a::r,x<m):∀{k:Nat},k≤m->(a::r.filter fun x=>decide (x<k))∈hdL T a k
 |0,_=>by
  have:(r.filter fun x=>decide (x<0))=[]:=by rw[bN];simp
  rw[this]
  simp[hdL]
 |k+1,hk=>by
  have ih:=x3l A hc hlt (k:=k) (by omega)
  have pw:=chB_iff.mp hc
  have nd:(a::r).Nodup:=pw.imp_of_mem fun {x y} hx hy z=>fun e=>by
   subst e
   rw[A.own x (hlt x hx)]at z
   cases z
  show _∈y1c T a k (hdL T a k)
  unfold y1c
  by_cases hkr:k∈r
  ·have hak:at2 T a k=true:=(ba.mp pw).1 k hkr
   rw[if_pos hak]
   refine aQ _ (ag.mpr ⟨aO.mpr ⟨_,ih,?_⟩,?_⟩)
   ·obtain⟨p,q,rfl⟩:=eV hkr
    have pw2:=(ba.mp pw).2
    obtain⟨_,pq,pc⟩:=List.pairwise_append.mp pw2
    have hp:∀x∈p,at2 T x k=true:=fun x hx=>pc x hx k af
    have hq:∀x∈q,at2 T k x=true:=fun x hx=>(ba.mp pq).1 x hx
    have km:k<m:=by omega
    have hp':∀x∈p,at2 T k x=false:=fun x hx=>A.ant x (hlt x (by simp[hx])) k km (hp x hx)
    have hq':∀x∈q,at2 T x k=false:=fun x hx=>A.ant k km x (hlt x (by simp[hx])) (hq x hx)
    have hka:at2 T k a=false:=A.ant a (hlt a af) k km hak
    have nd2:=(aw.mp nd).2
    have nk:k∉p∧k∉q:=by
     obtain⟨_,n2,n3⟩:=bT.mp nd2
     exact⟨fun z=>n3 k z k af rfl,(aw.mp n2).1⟩
    have f1:∀l:List Nat,k∉l->(l.filter fun x=>decide (x<k+1))=l.filter fun x=>decide (x<k):=fun l hl=>bB fun x hx=>by
     have:x≠k:=fun z=>hl (z ▸ hx)
     rw[decide_eq_decide]
     omega
    have e1:((p++k::q).filter fun x=>decide (x<k))=(p.filter fun x=>decide (x<k))++q.filter fun x=>decide (x<k):=by
     rw[bP,bf,if_neg (by simp)]
    have e2:((p++k::q).filter fun x=>decide (x<k+1))=(p.filter fun x=>decide (x<k))++k::q.filter fun x=>decide (x<k):=by
     rw[bP,bf,if_pos (by simp),f1 p nk.1,f1 q nk.2]
    rw[e1,e2]
    unfold insC
    have g1:((a::((p.filter fun x=>decide (x<k))++q.filter fun x=>decide (x<k))).filter fun x=>at2 T x k)=a::p.filter fun x=>decide (x<k):=by
     rw[bf,if_pos hak,bP]
     have h1:((p.filter fun x=>decide (x<k)).filter fun x=>at2 T x k)=p.filter fun x=>decide (x<k):=bq.mpr fun x hx=>hp x (ag.mp hx).1
     have h2:((q.filter fun x=>decide (x<k)).filter fun x=>at2 T x k)=[]:=bN.mpr fun x hx=>by rw[hq' x (ag.mp hx).1];exact ak
     rw[h1,h2,aL]
    have g2:((a::((p.filter fun x=>decide (x<k))++q.filter fun x=>decide (x<k))).filter fun x=>at2 T k x)=q.filter fun x=>decide (x<k):=by
     rw[bf,if_neg (by rw[hka];exact ak),bP]
     have h1:((p.filter fun x=>decide (x<k)).filter fun x=>at2 T k x)=[]:=bN.mpr fun x hx=>by rw[hp' x (ag.mp hx).1];exact ak
     have h2:((q.filter fun x=>decide (x<k)).filter fun x=>at2 T k x)=q.filter fun x=>decide (x<k):=bq.mpr fun x hx=>hq x (ag.mp hx).1
     rw[h1,h2,cB]
    rw[g1,g2]
    simp
   ·refine ax.mpr ⟨rfl,?_⟩
    rw[chB_iff]
    exact pw.sublist (List.Sublist.cons₂ a List.filter_sublist)
  ·have e:(r.filter fun x=>decide (x<k+1))=r.filter fun x=>decide (x<k):=bB fun x hx=>by
    have:x≠k:=fun z=>hkr (z ▸ hx)
    rw[decide_eq_decide]
    omega
   rw[e]
   split
   ·exact bX _ ih
   ·exact ih
theorem x3k{m:Nat}{T:List (List Bool)}(A:Ant m T){a:Nat}{r:List Nat}(hc:chB T (a::r)=true)(hlt:∀x∈a::r,x<m):(a::r)∈hdL T a m:=by
 have:=x3l A hc hlt (k:=m) (aj _)
 have e:(r.filter fun x=>decide (x<m))=r:=bq.mpr fun x hx=>decide_eq_true (hlt x (ae _ hx))
 rwa [e]at this
def crP(T:List (List Bool))(m:Nat)(c:List Nat):Bool:=decide (((btL T m c).length:Int)=0)
def crB(T:List (List Bool))(m a:Nat):Bool:=(hdL T a m).any (crP T m)
def btN(T:List (List Bool))(m a:Nat):List Nat:=(ad m).filter fun j=>at2 T a j
theorem bt_nil{T:List (List Bool)}{m:Nat}{c:List Nat}:crP T m c=true↔∀x<m,∃y∈c,at2 T x y=false:=by
 unfold crP btL
 rw[decide_eq_true_iff]
 constructor
 ·intro h x hx
  have h:((ad m).filter fun a=>c.all fun j=>at2 T a j)=[]:=aT.mp (by omega)
  have:=bN.mp h x (ai.mpr hx)
  rw[aJ]at this
  by_cases hq:∃y∈c,at2 T x y=false
  ·exact hq
  ·exact absurd (fun y hy=>by
    cases e:at2 T x y with
    |true=>rfl
    |false=>exact absurd ⟨y,hy,e⟩ hq) this
 ·intro h
  have:((ad m).filter fun a=>c.all fun j=>at2 T a j)=[]:=bN.mpr fun x hx=>by
   obtain⟨y,hy,e⟩:=h x (ai.mp hx)
   intro z
   rw[aJ.mp z y hy]at e
   cases e
  rw[this]
  rfl
theorem cr_end{m:Nat}{T:List (List Bool)}(A:Ant m T){a n:Nat}(ha:a<m)(hn:m<n):((z5D T n [a] (btN T m a)).any fun e=>z4S T e&&crP T m e)=crB T m a:=by
 have hlt:∀x∈btN T m a,x<m:=fun x hx=>ai.mp (ag.mp hx).1
 rw[dJ,bM]
 unfold crB
 rw[bM]
 constructor
 ·rintro⟨e,he,h⟩
  obtain⟨h1,h2⟩:=ax.mp h
  obtain⟨q,rfl,hq⟩:=z8z he
  refine⟨[a]++q,x3k A (ax.mp h1).2 fun x hx=>?_,h2⟩
  rcases ao.mp hx with z | z
  ·rw[z];exact ha
  ·exact hlt x (hq x z)
 ·rintro⟨c,hc,h⟩
  obtain⟨h1,⟨r,rfl⟩,h3⟩:=hd_ok ha (A.own a ha) (aj _) c hc
  have hbt:(btN T m a).length≤m:=aF (aW _ _) (by simp)
  have h1':(∀x∈r,at2 T a x=true):=aJ.mp (ax.mp (show(r.all (fun j=>at2 T a j)&&chB T r)=true from h1)).1
  obtain⟨e,he,g1,g2⟩:=y4G (T:=T) (n:=n) (c:=[a]) (f:=btN T m a) (r:=r) (by omega) (fun x hx=>A.own x (hlt x hx)) h1 (fun x hx=>ag.mpr ⟨ai.mpr (h3 x (ae _ hx)),h1' x hx⟩) (fun y hy x hx=>by
   rw[aq.mp hx]
   have:=(ag.mp hy).2
   simpa using this)
  refine⟨e,he,ax.mpr ⟨ax.mpr ⟨?_,g2⟩,?_⟩⟩
  ·have:=g1 a (by simp)
   cases e with
   |nil=>cases this
   |cons _ _=>rfl
  ·rw[bt_nil]at h ⊢
   intro x hx
   obtain⟨y,hy,e'⟩:=h x hx
   exact⟨y,g1 y hy,e'⟩
theorem y3e{T:List (List Bool)}:∀{n:Nat} {c f e:List Nat},e∈z5D T n c f->chB T c=true->(∀y∈f,∀x∈c,at2 T x y=true)->chB T e=true
 |0,_,_,_,h,_,_=>nomatch h
 |_+1,c,[],e,h,hc,_=>by
  have:e=c:=by simpa[z5D] using h
  rw[this];exact hc
 |n+1,c,x::f,e,h,hc,hb=>by
  obtain⟨l,hl,he⟩:=dq.mp (show e∈((x::f).map fun y=>z5D T n (c++[y]) ((x::f).filter fun z=>at2 T y z)).flatten from h)
  obtain⟨y,hy,rfl⟩:=aO.mp hl
  refine y3e he ?_ fun z hz w hw=>?_
  ·rw[z9M,hc]
   rw[aA,aJ]
   refine⟨by simp[chB],fun z hz=>?_⟩
   simp[hb y hy z hz]
  ·rcases ar.mp hw with q | q
   ·exact hb z (ag.mp hz).1 w q
   ·rw[aq.mp q]
    have:=(ag.mp hz).2
    simpa using this
def y5N(T:List (List Bool))(m a:Nat):List (List Nat):=z5D T 12 [a] (btN T m a)
structure Ech(m:Nat)(T:List (List Bool))(a:Nat)(e:List Nat):Prop where
 ch:z4S T e=true
 lt:∀x∈e,x<m
 len:e.length≤m
 hd:∃q,e=a::q
theorem y9e{m:Nat}{T:List (List Bool)}(A:Ant m T){a:Nat}(ha:a<m){e:List Nat}(he:e∈y5N T m a):Ech m T a e:=by
 obtain⟨q,rfl,hq⟩:=z8z he
 have hlt:∀x∈[a]++q,x<m:=fun x hx=>by
  rcases ao.mp hx with z | z
  ·rw[z];exact ha
  ·exact ai.mp (ag.mp (hq x z)).1
 have hc:chB T ([a]++q)=true:=y3e he (by simp[chB]) fun y hy x hx=>by
  rw[aq.mp hx]
  have:=(ag.mp hy).2
  simpa using this
 have nd:([a]++q).Nodup:=(chB_iff.mp hc).imp_of_mem fun {x y} hx hy z=>fun e=>by
  subst e
  rw[A.own x (hlt x hx)]at z
  cases z
 exact⟨ax.mpr ⟨rfl,hc⟩,hlt,by simpa using List.Nodup.length_le_of_subset nd fun x hx=>ai.mpr (hlt x hx),q,rfl⟩
theorem x0f{T:List (List Bool)}{m a:Nat}:(btN T m a).length≤m:=aF (aW _ _) (by simp)
theorem x0M{m:Nat}{T:List (List Bool)}(A:Ant m T)(hm:m≤8){a:Nat}:(y5N T m a).length≤40320:=by
 refine aF (z6d fun x hx=>A.own x (ai.mp (ag.mp hx).1)) ?_
 have:=x0f (T:=T) (m:=m) (a:=a)
 exact aF (z6g (show _≤8 by omega)) (by decide)
theorem y7O{m:Nat}{T:List (List Bool)}(A:Ant m T)(hm:m≤8){a:Nat}(ha:a<m):z1E [z0F T,thD [a],thD (btN T m a)]=some (.lst ((y5N T m a).map thD)):=by
 have:=x0f (T:=T) (m:=m) (a:=a)
 exact y3w A.sq A.own hm (n:=12) (by omega) (by omega) (by simp;omega) fun x hx=>ai.mp (ag.mp hx).1
def bpD(T:List (List Bool))(m:Nat)(c:List Nat):D:=.tup [thD c,nD ((btL T m c).headD 0)]
def papD(T:List (List Bool))(m a:Nat):D:=match (y5N T m a).find? (crP T m)with
 |some c=>.tup [.str "chain",thD c]
 |none=>.tup [.str "beaten",.lst ((y5N T m a).map (bpD T m))]
theorem st_cr{m:Nat}{T:List (List Bool)}(A:Ant m T)(hm:m≤8){a:Nat}{c:List Nat}(h:Ech m T a c):z4V [z0F T,thD c]=some (.bl (crP T m c)):=by
 have h1:=h.len
 have:=y9Q A.sq (by omega) (th:=c) (by omega) h.lt
 rw[h.ch,dZ]at this
 exact this
theorem y1z{α:Type}{p:α->Bool}:∀{l pre post:List α} {x:α},l=pre++x::post->(∀y∈pre,p y=false)->p x=true->l.find? p=some x
 |_,[],post,x,e,_,hx=>by rw[e,cB,bH,hx]
 |_,y::pre,post,x,e,hp,hx=>by
  rw[e,List.cons_append,bH,hp y af]
  exact y1z rfl (fun z hz=>hp z (ae _ hz)) hx
theorem x0Z{m:Nat}{T:List (List Bool)}(A:Ant m T)(hm:m≤8){a:Nat}(ha:a<m):z1t [z0F T,.int (a:Int)]=some (papD T m a):=by
 refine z0p rfl ?_
 have e1:=y7O A hm ha
 have e2:=z4R A.sq (by omega) ha
 have e2:z0D [z0F T,.int (a:Int)]=some (thD (btN T m a)):=e2
 have t1:D.lst [.int (a:Int)]=thD [a]:=rfl
 have f1:z6L (some [D.int (a:Int)])=some [D.int (a:Int)]:=rfl
 have l1:=x0M A hm (a:=a)
 have ok:∀c∈y5N T m a,Ech m T a c:=fun c hc=>y9e A ha hc
 unfold papD
 obtain⟨E,hE⟩:∃E,E=y5N T m a:=⟨_,rfl⟩
 rw[←hE]at e1 l1 ok ⊢
 simp! only[z3e,f1,t1,e2,e1]
 refine y4T (I:=fun s=>∃o3,s=[some (.sh (z0F T)),some (.sh (.int (a:Int))),some (.sh (.lst (E.map thD))),o3]∧∀y∈E,crP T m y=false) ?_ ?_
 ·refine z3i (enc:=thD) (fun pre s=>∃o3,s=[some (.sh (z0F T)),some (.sh (.int (a:Int))),some (.sh (.lst (E.map thD))),o3]∧∀y∈pre,crP T m y=false) ⟨_,rfl,fun y hy=>by cases hy⟩ ?_ ?_
  ·rintro pre c post e s ⟨o3,rfl,hp⟩
   have hc:c∈E:=by rw[e];simp
   have st:=st_cr A hm (ok c hc)
   cases h:crP T m c with
   |true=>
    rw[h]at st
    rw[y1z e hp h]
    simp! only[st,z0c]
    exact .inr trivial
   |false=>
    rw[h]at st
    simp! only[st,z0c]
    refine⟨_,rfl,fun y hy=>?_⟩
    rcases ar.mp hy with z | z
    ·exact hp y z
    ·rw[aq.mp z];exact h
  ·rintro s ⟨o3,rfl,hp⟩
   exact .inl ⟨_,rfl,_,rfl,hp⟩
 ·rintro s ⟨o3,rfl,hp⟩
  have hfn:E.find? (crP T m)=none:=eU.mpr fun y hy=>by rw[hp y hy];exact ak
  rw[hfn]
  have cx:z2c (some (E.map thD)) (z1J z4C (mkT (z0m [z0d 4,d2 ixD (z0k z2d [z0d 0,z0d 4]) (dC (.int 0))])) [some (z0F T),some (.int (a:Int)),some (.lst (E.map thD)),shO o3])=some (E.map (bpD T m)):=by
   rw[z2e (by rw[ah];omega)]
   refine z1C (bpD T m) fun c hc=>?_
   have h1:=(ok c hc).len
   have bt:=z7X A.sq (by omega) (th:=c) (by omega) (ok c hc).lt
   have hne:btL T m c≠[]:=fun z=>by
    have:=hp c hc
    unfold crP at this
    rw[z]at this
    simp at this
   have i0:ixD (thD (btL T m c)) (.int 0)=some (nD ((btL T m c).headD 0)):=by
    cases hb:btL T m c with
    |nil=>exact absurd hb hne
    |cons x w=>exact z1M (j:=0) rfl
   simp! only[bt,i0]
   rfl
  simp! only[cx,z0c]
theorem x3p{a b:Str}{c:Bool}(h1:okP (.str a)=true)(h2:okP (.str b)=true)(h:PyData.eqv (.str a) (.str b)=c):eqD (.str a) (.str b)=some (.bl c):=by
 unfold eqD
 rw[h1,h2]
 show some (D.bl (PyData.eqv (.str a) (.str b)))=_
 rw[h]
theorem k_cc:eqD (.str "chain") (.str "chain")=some (.bl true):=x3p (by decide +kernel) (by decide +kernel) (by decide +kernel)
theorem k_bc:eqD (.str "beaten") (.str "chain")=some (.bl false):=x3p (by decide +kernel) (by decide +kernel) (by decide +kernel)
theorem x1H{m:Nat}{T:List (List Bool)}(A:Ant m T)(hm:m≤8){a:Nat}(ha:a<m):o2 eqD (ixD (papD T m a) (.int 0)) (some (.str "chain"))=some (.bl (crB T m a)):=by
 have h:=cr_end A ha (show m<12 by omega)
 have e:((z5D T 12 [a] (btN T m a)).any fun e=>z4S T e&&crP T m e)=(y5N T m a).any (crP T m):=by
  show((y5N T m a).any fun e=>z4S T e&&crP T m e)=_
  rw[dJ,bM,bM]
  constructor
  ·rintro⟨c,hc,h⟩
   exact⟨c,hc,(ax.mp h).2⟩
  ·rintro⟨c,hc,h⟩
   exact⟨c,hc,ax.mpr ⟨(y9e A ha hc).ch,h⟩⟩
 rw[e]at h
 rw[←h]
 unfold papD
 cases hf:(y5N T m a).find? (crP T m)with
 |some c=>
  have:(y5N T m a).any (crP T m)=true:=bM.mpr ⟨c,List.mem_of_find?_eq_some hf,List.find?_some hf⟩
  rw[this]
  exact k_cc
 |none=>
  have:(y5N T m a).any (crP T m)=false:=by
   rw[bU]
   exact eU.mp hf
  rw[this]
  exact k_bc
theorem y6K{m:Nat}{T:List (List Bool)}(A:Ant m T)(hm:m≤8):z4Q [z0F T]=some (thD ((ad m).filter (crB T m))):=by
 refine z0p rfl ?_
 have cx:z2c (some (z2h 0 m)) (z1J (z0Q (d2 eqD (d2 ixD (z0k z1t [z0d 0,z0d 1]) (dC (.int 0))) (dC (.str "chain")))) (z0d 1) [some (z0F T)])=some (((ad m).filter (crB T m)).map nD):=by
  rw[z1p]
  refine z8N (crB T m) nD (by simp;omega) (fun a ha=>?_) fun a _ _=>by simp! only[]
  have ha:=ai.mp ha
  have pe:=x0Z A hm ha
  have pk:=x1H A hm ha
  simp! only[nD,pe,pk]
 simp! only[z8G,z1Z,A.sq.1,z1u (show m≤1000000 by omega),cx,z4r,z0c]
 rfl
theorem y8g{n:Nat}{T:List (List Bool)}(sq:Sq n T)(hn:n≤1000){k:Nat}(hk:k<n):z6i [z0F T,.int (k:Int)]=some (z5a ((ad n).map fun i=>at2 T i k)):=by
 refine z0p rfl ?_
 have hl':(T.map z5a).length≤1000000:=by rw[ah,sq.1];omega
 have e:(ad n).map (fun i=>at2 T i k)=T.map fun r=>r.getD k false:=by
  apply bv
  ·simp[sq.1]
  ·intro i h1 h2
   have hi:i<T.length:=by simpa using h2
   simp[at2,aZ,ac hi]
 have hc:z0Z (z1J z4C (d2 ixD (z0d 2) (z0d 1)) [some (z0F T),some (.int (k:Int))]) (T.map z5a)=some ((T.map fun r=>r.getD k false).map bD):=by
  rw[aK]
  exact z1C (fun r:List Bool=>bD (r.getD k false)) fun r hr=>by simp! only[z9P (show k<r.length by rw[sq.2 r hr];exact hk),bD]
 have fl:=z1R (z2Y (T.map fun r=>r.getD k false))
 simp! only[z8R,seq_tab,z2e hl',hc,fl,z0c]
 rw[e]
 rfl
theorem bof_eq{n:Nat}{T:List (List Bool)}(sq:Sq n T)(hn:n≤1000){k:Nat}(hk:k<n):z2k [z0F T,.int (k:Int)]=some (thD ((ad n).filter fun j=>at2 T j k)):=by
 refine z0p rfl ?_
 have p:=y0Q ((ad n).map fun i=>at2 T i k) (by rw[ah,aS];omega)
 have e:((ad ((ad n).map fun i=>at2 T i k).length).filter fun i=>((ad n).map fun i=>at2 T i k).getD i false)=(ad n).filter fun j=>at2 T j k:=by
  rw[ah,aS]
  apply bB
  intro i hi
  rw[z9i (by simpa using hi)]
  simp
 rw[e]at p
 simp! only[z3P,y8g sq hn hk,p,z0c]
def wsum(ws:List Int)(l:List Nat):Int:=(l.map fun j=>ws.getD j 0).sum
def scr(T:List (List Bool))(ws:List Int)(n i:Nat):Int:=wsum ws ((ad n).filter fun j=>at2 T i j) - wsum ws ((ad n).filter fun j=>at2 T j i)
theorem y6F{ws:List Int}{th:List Nat}(hl:th.length≤1000)(h:∀x∈th,x<ws.length):z2b [z5d ws,thD th]=some (.int (wsum ws th)):=by
 refine z0p rfl ?_
 simp! only[z4n,z4M]
 rw[z5M (fun j=>D.int (ws.getD j 0)) hl fun j hj=>by simp! only[nD,ix_in (h j hj)]]
 have e:(th.map fun j=>D.int (ws.getD j 0))=(th.map fun j=>ws.getD j 0).map D.int:=by rw[aK];rfl
 simp! only[e,x2i,z0c]
 rfl
theorem x1n{m:Nat}{T:List (List Bool)}(sq:Sq m T)(hm:m≤1000){ws:List Int}(hw:ws.length=m){i:Nat}(hi:i<m):z6O [z0F T,z5d ws,.int (i:Int)]=some (.int (scr T ws m i)):=by
 refine z0p rfl ?_
 have fl:∀p:Nat->Bool,((ad m).filter p).length≤1000:=fun p=>aF (aW ..) (by simpa using hm)
 have fm:∀p:Nat->Bool,∀x∈(ad m).filter p,x<ws.length:=fun p x hx=>by
  rw[hw]
  exact ai.mp (ag.mp hx).1
 simp! only[y1S,z4R sq hm hi,bof_eq sq hm hi,y6F (fl _) (fm _),z0c]
 rfl
theorem y0s{ws:List Int}{p:Nat->Bool}{n:Nat}:wsum ws ((ad (n+1)).filter p)=wsum ws ((ad n).filter p)+if p n=true then ws.getD n 0 else 0:=by
 rw[x0k]
 unfold wsum
 rw[aD,bR]
 by_cases h:p n=true
 ·rw[if_pos h,if_pos h];simp
 ·rw[if_neg h,if_neg h];simp
theorem y7z{r:List Bool}{th:List Nat}(hl:th.length≤1000)(h:∀x∈th,x<r.length):z4L [z5a r,thD th]=some (z5a (th.map fun j=>r.getD j false)):=by
 refine z0p rfl ?_
 have hl':(th.map nD).length≤1000000:=by rw[ah];omega
 have hc:z0Z (z1J z4C (d2 ixD (z0d 0) (z0d 2)) [some (z5a r),some (thD th)]) (th.map nD)=some ((th.map fun j=>r.getD j false).map bD):=by
  rw[aK]
  exact z1C (fun j:Nat=>bD (r.getD j false)) fun j hj=>by simp! only[nD,z9P (h j hj),bD]
 have fl:=z1R (z2Y (th.map fun j=>r.getD j false))
 simp! only[z9y,z4M,z2e hl',hc,fl,z0c]
 rfl
theorem y6A{n:Nat}{T:List (List Bool)}(sq:Sq n T){th:List Nat}(hl:th.length≤1000)(h:∀x∈th,x<n):z7R [z0F T,thD th]=some (z0F (z0J th (at2 T))):=by
 refine z0p rfl ?_
 have hl':(th.map nD).length≤1000000:=by rw[ah];omega
 have hc:z0Z (z1J z4C (z0k z4L [d2 ixD (z0d 0) (z0d 2),z0d 1]) [some (z0F T),some (thD th)]) (th.map nD)=some ((z0J th (at2 T)).map z5a):=by
  unfold z0J
  rw[aK]
  exact z1C (fun i:Nat=>z5a (th.map fun j=>at2 T i j)) fun i hi=>by
   have p:=y7z (r:=T.getD i []) (th:=th) hl (fun x hx=>by rw[sq.len (h i hi)];exact h x hx)
   simp! only[nD,z9J (show i<T.length by rw[sq.1];exact h i hi),p]
   rfl
 simp! only[y8T,z4M,z2e hl',hc,z0c]
 rfl
def sg(k:Nat):Int:=if k % 2=0 then 1 else -1
def sgn(T:List (List Bool))(i j:Nat):Int:=if at2 T i j=true then 1 else -1
def pfS(T:List (List Bool)):Nat->List Nat->Int
 |0,_=>1
 |_+1,[]=>1
 |n+1,x::r=>((ad r.length).map fun k=>sg k*sgn T x (r.getD k 0)*pfS T n (r.eraseIdx k)).sum
theorem z5N(k:Nat):sg k=1∨sg k = -1:=by unfold sg;split;exact .inl rfl;exact .inr rfl
theorem z5s(T:List (List Bool))(i j:Nat):sgn T i j=1∨sgn T i j = -1:=by unfold sgn;split;exact .inl rfl;exact .inr rfl
theorem sg_add{a b:Nat}:sg (a+b)=sg a*sg b:=by
 unfold sg
 rcases cL a with h | h <;> rcases cL b with k | k
 ·rw[if_pos (by omega),if_pos h,if_pos k];rfl
 ·rw[if_neg (by omega),if_pos h,if_neg (by omega)];rfl
 ·rw[if_neg (by omega),if_neg (by omega),if_pos k];rfl
 ·rw[if_pos (by omega),if_neg (by omega),if_neg (by omega)];rfl
theorem z6T{f:Nat->Int}{B:Int}:∀{c:Nat},(∀k<c,-B≤f k∧f k≤B)->-((c:Int)*B)≤((ad c).map f).sum∧((ad c).map f).sum≤(c:Int)*B
 |0,_=>by simp
 |c+1,h=>by
  have ih:=z6T (c:=c) fun k hk=>h k (by omega)
  have hc:=h c (by omega)
  rw[b8,aD,bR]
  have e:(((c+1:Nat)):Int)*B=(c:Int)*B+B:=by rw[Int.natCast_add,Int.add_mul];simp
  rw[e]
  simp only[ay,cD,bF,List.sum_nil]
  omega
theorem z9D{T:List (List Bool)}:∀{n:Nat} {L:List Nat},L.length≤8->-(8 ^ n:Int)≤pfS T n L∧pfS T n L≤8 ^ n
 |0,L,_=>by show -(8 ^ 0:Int)≤1∧(1:Int)≤8 ^ 0;omega
 |n+1,[],_=>by
  show -(8 ^ (n+1):Int)≤1∧(1:Int)≤8 ^ (n+1)
  have:(0:Int)<8 ^ (n+1):=Int.pow_pos (by omega)
  omega
 |n+1,x::r,hl=>by
  have hr:r.length≤7:=by simp at hl;omega
  have hp:(0:Int)<8 ^ n:=Int.pow_pos (by omega)
  have:=z6T (c:=r.length) (B:=8 ^ n) (f:=fun k=>sg k*sgn T x (r.getD k 0)*pfS T n (r.eraseIdx k)) fun k hk=>by
   have b:=z9D (T:=T) (n:=n) (L:=r.eraseIdx k) (by have:=List.length_eraseIdx_le r k;omega)
   show -(8 ^ n:Int)≤sg k*sgn T x (r.getD k 0)*pfS T n (r.eraseIdx k)∧sg k*sgn T x (r.getD k 0)*pfS T n (r.eraseIdx k)≤8 ^ n
   rcases z5N k with h | h <;> rcases z5s T x (r.getD k 0)with h' | h' <;> rw[h,h'] <;> omega
  show -(8 ^ (n+1):Int)≤((ad r.length).map fun k=>sg k*sgn T x (r.getD k 0)*pfS T n (r.eraseIdx k)).sum∧((ad r.length).map fun k=>sg k*sgn T x (r.getD k 0)*pfS T n (r.eraseIdx k)).sum≤8 ^ (n+1)
  have e:(8 ^ (n+1):Int)=8*8 ^ n:=by rw[Int.pow_succ,cH]
  have m1:(r.length:Int)*8 ^ n≤8*8 ^ n:=cz (by omega) (by omega)
  rw[e]
  omega
theorem y6m{f:Nat->Int}:∀{c:Nat},(∀k<c,f k % 2=1)->((ad c).map f).sum % 2=(c:Int) % 2
 |0,_=>by simp
 |c+1,h=>by
  have ih:=y6m (c:=c) fun k hk=>h k (by omega)
  have hc:=h c (by omega)
  rw[b8,aD,bR]
  simp only[ay,cD,bF,List.sum_nil]
  omega
theorem y4f{T:List (List Bool)}:∀{n c:Nat} {L:List Nat},L.length=2*c->pfS T n L % 2=1
 |0,_,L,_=>rfl
 |n+1,_,[],_=>rfl
 |n+1,c,x::r,hl=>by
  have hr:r.length+1=2*c:=hl
  show((ad r.length).map fun k=>sg k*sgn T x (r.getD k 0)*pfS T n (r.eraseIdx k)).sum % 2=1
  rw[y6m fun k hk=>?_]
  ·omega
  ·have b:=y4f (T:=T) (n:=n) (c:=c - 1) (L:=r.eraseIdx k) (by rw[be,if_pos hk];omega)
   rcases z5N k with h | h <;> rcases z5s T x (r.getD k 0)with h' | h' <;> rw[h,h'] <;> omega
theorem y2B{i j:Int}(h1:-(2 ^ 100)≤i∧i≤2 ^ 100)(h2:-(2 ^ 100)≤j∧j≤2 ^ 100):mulB (.int i) (.int j)=some (.int (i*j)):=by
 have hb:(2 ^ 100:Nat)<bigL:=by decide
 have h:CMulB i j:=⟨c7 (show i.natAbs≤2 ^ 100 by omega) hb,c7 (show j.natAbs≤2 ^ 100 by omega) hb⟩
 show(if CMulB i j then _ else _)=_
 rw[if_pos h]
theorem y3c(k:Nat):z0K [.int (k:Int)]=some (.int (sg k)):=by
 refine z0p rfl ?_
 have d:z4y (.int (k:Int)) (.int 2)=some (.int ((k:Int) % 2)):=z2D (by omega)
 unfold sg
 rcases cL k with h | h
 ·have z:decide ((k:Int) % 2=0)=true:=decide_eq_true (by omega)
  rw[if_pos h]
  simp_all! only[z1V,d,z,z0c]
 ·have z:decide ((k:Int) % 2=0)=false:=decide_eq_false (by omega)
  rw[if_neg (by omega)]
  simp_all! only[z1V,d,z,z0c]
theorem sign_eq{th:List Nat}{T:List (List Bool)}{x k:Nat}{r:List Nat}(e:th=x::r)(hk:k<r.length):y0Y [z0F (z0J th (at2 T)),.int ((k:Int)+1)]=some (.int (sgn T x (r.getD k 0))):=by
 refine z0p rfl ?_
 have sq:=z6G (th:=th) (f:=at2 T)
 have hl:th.length=r.length+1:=by rw[e];rfl
 have ixt:ixD (z0F (z0J th (at2 T))) (.int 0)=some (z5a ((z0J th (at2 T)).getD 0 [])):=z9J (i:=0) (by rw[sq.1];omega)
 have ixx:ixD (z5a ((z0J th (at2 T)).getD 0 [])) (.int ((k:Int)+1))=some (.bl (at2 (z0J th (at2 T)) 0 (k+1))):=z9P (j:=k+1) (by rw[sq.len (by omega)];omega)
 have ev:at2 (z0J th (at2 T)) 0 (k+1)=at2 T x (r.getD k 0):=by
  rw[e]
  show((((x::r).map fun i=>(x::r).map fun j=>at2 T i j).getD 0 []).getD (k+1) false)=_
  show(((r.map fun j=>at2 T x j)).getD k false)=_
  simp[aZ,ac hk]
 rw[ev]at ixx
 unfold sgn
 cases hv:at2 T x (r.getD k 0)with
 |true=>
  rw[hv]at ixx
  simp_all! only[y3t,ixt,ixx,z0c]
  rfl
 |false=>
  rw[hv]at ixx
  simp_all! only[y3t,ixt,ixx,z0c]
  rfl
theorem z6E:∀{r:List Nat} {k:Nat},k<r.length->((ad r.length).filter fun i=>decide (i≠k)).map (fun i=>r.getD i 0)=r.eraseIdx k
 |[],_,h=>by simp at h
 |y::r,k,h=>by
  show((ad (r.length+1)).filter fun i=>decide (i≠k)).map (fun i=>(y::r).getD i 0)=_
  rw[ci,bf,List.filter_map]
  cases k with
  |zero=>
   rw[if_neg (by simp),aK,bq.mpr (fun a _=>by simp)]
   show(ad r.length).map (fun i=>r.getD i 0)=r
   apply bv
   ·simp
   ·intro i h1 h2
    simp[aZ,ac h2]
  |succ k=>
   rw[if_pos (by simp),ay,aK]
   show y::_=y::r.eraseIdx k
   rw[←z6E (r:=r) (k:=k) (by simpa using h)]
   congr 1
   show((ad r.length).filter _).map (fun i=>r.getD i 0)=_
   congr 1
   apply bB
   intro i _
   simp
theorem y3b{th:List Nat}{f:Nat->Nat->Bool}{i j:Nat}(hi:i<th.length)(hj:j<th.length):at2 (z0J th f) i j=f (th.getD i 0) (th.getD j 0):=by
 unfold at2 z0J
 simp[aZ,ac hi,ac hj]
theorem y8w{th:List Nat}{T:List (List Bool)}{is:List Nat}(h:∀i∈is,i<th.length):z0J is (at2 (z0J th (at2 T)))=z0J (is.map fun i=>th.getD i 0) (at2 T):=by
 show is.map (fun i=>is.map fun j=>at2 (z0J th (at2 T)) i j)=(is.map fun i=>th.getD i 0).map fun i=>(is.map fun i=>th.getD i 0).map fun j=>at2 T i j
 rw[aK]
 apply bh
 intro i hi
 show is.map (fun j=>at2 (z0J th (at2 T)) i j)=(is.map fun i=>th.getD i 0).map fun j=>at2 T (th.getD i 0) j
 rw[aK]
 apply bh
 intro j hj
 exact y3b (h i hi) (h j hj)
theorem z8c{th:List Nat}{T:List (List Bool)}(hl:th.length≤1000){no:List Nat}:z1g [z0F (z0J th (at2 T)),thD no]=some (z0F (z0J (((ad th.length).filter fun i=>!no.contains i).map fun i=>th.getD i 0) (at2 T))):=by
 refine z0p rfl ?_
 have sq:=z6G (th:=th) (f:=at2 T)
 have cx:z2c (some (z2h 0 th.length)) (z1J (z0Q (d2 ninD (z0d 2) (z0d 1))) (z0d 2) [some (z0F (z0J th (at2 T))),some (thD no)])=some (((ad th.length).filter fun i=>!no.contains i).map nD):=by
  rw[z1p]
  exact z8N (fun i=>!no.contains i) nD (by simp;omega) (fun i hi=>by simp! only[nD,nin_ths]) fun i hi _=>by simp! only[]
 have hm:∀i∈(ad th.length).filter fun i=>!no.contains i,i<th.length:=fun i hi=>ai.mp (ag.mp hi).1
 have p:=y6A sq (th:=(ad th.length).filter fun i=>!no.contains i) (by have:=aW (fun i=>!no.contains i) (ad th.length);rw[aS]at this;omega) hm
 rw[y8w hm]at p
 simp! only[z7q,z1Z,sq.1,z1u (show th.length≤1000000 by omega),cx,y1H,p,z0c]
theorem y5f{x k:Nat}{r:List Nat}{T:List (List Bool)}(hl:r.length≤900)(hk:k<r.length):z1g [z0F (z0J (x::r) (at2 T)),.lst [.int 0,.int ((k:Int)+1)]]=some (z0F (z0J (r.eraseIdx k) (at2 T))):=by
 have w:=z8c (th:=x::r) (T:=T) (by simp;omega) (no:=[0,k+1])
 have e:((ad (x::r).length).filter fun i=>!([0,k+1]:List Nat).contains i).map (fun i=>(x::r).getD i 0)=r.eraseIdx k:=by
  show((ad (r.length+1)).filter fun i=>!([0,k+1]:List Nat).contains i).map (fun i=>(x::r).getD i 0)=_
  rw[ci,bf,if_neg (by simp),List.filter_map,aK,←z6E hk]
  have hf:(ad r.length).filter ((fun i=>!([0,k+1]:List Nat).contains i)∘Nat.succ)=(ad r.length).filter fun i=>decide (i≠k):=bB fun i _=>by simp
  rw[hf]
  rfl
 rw[e]at w
 exact w
theorem y6J{T:List (List Bool)}:∀{n c:Nat} {th:List Nat},n≤12->th.length≤8->th.length=2*c->c<n->z1i n [z0F (z0J th (at2 T))]=some (.int (pfS T n th))
 |0,_,_,_,_,_,h=>by omega
 |n+1,c,[],_,_,_,_=>by
  refine z0p rfl ?_
  have l0:z2g [z0F (z0J [] (at2 T))]=some (.int 0):=rfl
  simp_all! only[z1U,l0,z0c]
  rfl
 |n+1,c,x::r,hn,h8,hc,hcn=>by
  refine z0p rfl ?_
  have hr:r.length+1=2*c:=hc
  have h8:r.length+1≤8:=h8
  have l0:z2g [z0F (z0J (x::r) (at2 T))]=some (.int ((r.length:Int)+1)):=by
   rw[z1Z,(z6G (th:=x::r) (f:=at2 T)).1]
   rfl
  have d0:decide ((r.length:Int)+1=0)=false:=decide_eq_false (by omega)
  have rn:rng2 (some (.int 1)) (some (.int ((r.length:Int)+1)))=some (z2h 1 r.length):=by
   rw[eo_rng2 (by omega)]
   congr 2
   omega
  obtain⟨f,hf⟩:∃f:Nat->Int,f=fun k=>sg k*sgn T x (r.getD k 0)*pfS T n (r.eraseIdx k):=⟨_,rfl⟩
  simp_all! only[z1U,l0,d0,rn]
  refine z0z (I:=fun s=>∃o2,s=[some (.sh (z0F (z0J (x::r) (at2 T)))),some (.sh (.int ((ad r.length).map f).sum)),o2]) ?_ ?_
  ·refine z9E (fun k s=>∃o2,s=[some (.sh (z0F (z0J (x::r) (at2 T)))),some (.sh (.int ((ad k).map f).sum)),o2]) ⟨_,rfl⟩ ?_ fun s z=>⟨s,rfl,z⟩
   rintro k hk s ⟨o2,rfl⟩
   have e1:(1:Int)+(k:Int)=(k:Int)+1:=by omega
   have e2:(k:Int)+1 - 1=(k:Int):=by omega
   have hel:(r.eraseIdx k).length=2*(c - 1):=by rw[be,if_pos hk];omega
   have ps:=y6J (T:=T) (n:=n) (c:=c - 1) (th:=r.eraseIdx k) (by omega) (by omega) hel (by omega)
   have b:=z9D (T:=T) (n:=n) (L:=r.eraseIdx k) (by omega)
   have h12:(8 ^ n:Int)≤8 ^ 12:=by
    have h:=eL (n:=8) (by omega) (show n≤12 by omega)
    have e:((8 ^ n:Nat):Int)=8 ^ n:=Int.natCast_pow 8 n
    omega
   have sc:-1≤sg k*sgn T x (r.getD k 0)∧sg k*sgn T x (r.getD k 0)≤1:=by
    rcases z5N k with h | h <;> rcases z5s T x (r.getD k 0)with h' | h' <;> rw[h,h'] <;> omega
   have s1:-1≤sg k∧sg k≤1:=by rcases z5N k with h | h <;> rw[h] <;> omega
   have s2:-1≤sgn T x (r.getD k 0)∧sgn T x (r.getD k 0)≤1:=by rcases z5s T x (r.getD k 0)with h | h <;> rw[h] <;> omega
   have m1:=y2B (i:=sg k) (j:=sgn T x (r.getD k 0)) (by omega) (by omega)
   have m2:=y2B (i:=sg k*sgn T x (r.getD k 0)) (j:=pfS T n (r.eraseIdx k)) (by omega) (by omega)
   have es:((ad (k+1)).map f).sum=((ad k).map f).sum+sg k*sgn T x (r.getD k 0)*pfS T n (r.eraseIdx k):=by
    rw[b8,aD,bR,hf]
    simp
   rw[es]
   simp_all! only[e1,e2,y3c,sign_eq rfl hk,y5f (x:=x) (T:=T) (show r.length≤900 by omega) hk,ps,m1,m2,z0c]
   exact⟨_,rfl⟩
  ·rintro s ⟨o2,rfl⟩
   simp! only[z0c,hf]
   rfl
theorem y6s{α:Type}{f:α->Int}{c:Int}:∀{l:List α},(l.map fun x=>c*f x).sum=c*(l.map f).sum
 |[]=>by simp
 |x::l=>by rw[ay,bF,y6s,ay,bF,Int.mul_add]
def Ex(s:Nat->Nat->Int)(x:Nat):(List Nat->Int)->List Nat->Int
 |_,[]=>0
 |F,y::r=>s x y*F r - Ex s x (fun l=>F (y::l)) r
theorem y9P{s:Nat->Nat->Int}{x:Nat}{c:Int}:∀{l:List Nat} {F G:List Nat->Int},Ex s x (fun l=>c*F l - G l) l=c*Ex s x F l - Ex s x G l
 |[],F,G=>by show(0:Int)=c*0 - 0;omega
 |y::r,F,G=>by
  show s x y*(c*F r - G r) - Ex s x (fun l=>c*F (y::l) - G (y::l)) r=c*(s x y*F r - Ex s x (fun l=>F (y::l)) r) - (s x y*G r - Ex s x (fun l=>G (y::l)) r)
  rw[y9P (F:=fun l=>F (y::l)) (G:=fun l=>G (y::l)),Int.mul_sub,Int.mul_sub,Int.mul_left_comm]
  omega
theorem y7b{s:Nat->Nat->Int}{x:Nat}:∀{l:List Nat} {F G:List Nat->Int},(∀l,F l = -G l)->Ex s x F l = -Ex s x G l
 |[],F,G,_=>by show(0:Int) = -0;omega
 |y::r,F,G,h=>by
  show s x y*F r - Ex s x (fun l=>F (y::l)) r = -(s x y*G r - Ex s x (fun l=>G (y::l)) r)
  rw[y7b (F:=fun l=>F (y::l)) (G:=fun l=>G (y::l)) fun l=>h (y::l),h r,Int.mul_neg]
  omega
theorem y8h{s:Nat->Nat->Int}{x:Nat}{F:List Nat->Int}{l:List Nat}(h:∀l,F l=0):Ex s x F l=0:=by
 have:=y7b (s:=s) (x:=x) (l:=l) (F:=F) (G:=F) fun l=>by rw[h l];rfl
 omega
theorem y8O{s:Nat->Nat->Int}{a b:Nat}:∀{l:List Nat} {F:List Nat->Int},Ex s a (Ex s b F) l = -Ex s b (Ex s a F) l
 |[],F=>by show(0:Int) = -0;omega
 |y::r,F=>by
  show s a y*Ex s b F r - Ex s a (fun l=>s b y*F l - Ex s b (fun l=>F (y::l)) l) r = -(s b y*Ex s a F r - Ex s b (fun l=>s a y*F l - Ex s a (fun l=>F (y::l)) l) r)
  rw[y9P,y9P,y8O (F:=fun l=>F (y::l))]
  omega
def Pf(s:Nat->Nat->Int):Nat->List Nat->Int
 |_,[]=>1
 |0,_::_=>0
 |n+1,x::r=>Ex s x (Pf s n) r
def Alt(F:List Nat->Int):Prop:=∀A a b Q,F (A++a::b::Q) = -F (A++b::a::Q)
theorem x3v{s:Nat->Nat->Int}{x:Nat}:∀{A:List Nat} {F:List Nat->Int},Alt F->∀a b Q,Ex s x F (A++a::b::Q) = -Ex s x F (A++b::a::Q)
 |[],F,h,a,b,Q=>by
  show s x a*F (b::Q) - (s x b*F (a::Q) - Ex s x (fun l=>F (a::b::l)) Q) = -(s x b*F (a::Q) - (s x a*F (b::Q) - Ex s x (fun l=>F (b::a::l)) Q))
  rw[y7b (F:=fun l=>F (a::b::l)) (G:=fun l=>F (b::a::l)) fun l=>h [] a b l]
  omega
 |y::A,F,h,a,b,Q=>by
  show s x y*F (A++a::b::Q) - Ex s x (fun l=>F (y::l)) (A++a::b::Q) = -(s x y*F (A++b::a::Q) - Ex s x (fun l=>F (y::l)) (A++b::a::Q))
  rw[x3v (A:=A) (F:=fun l=>F (y::l)) (fun B c d R=>h (y::B) c d R),h A a b Q,Int.mul_neg]
  omega
theorem x2K{s:Nat->Nat->Int}(sk:∀a b,s a b = -s b a):∀n,Alt (Pf s n)
 |0,A,a,b,Q=>by
  have z:∀c d,Pf s 0 (A++c::d::Q)=0:=fun c d=>by cases A <;> rfl
  rw[z,z]
  rfl
 |n+1,x::A,a,b,Q=>x3v (x2K sk n) a b Q
 |n+1,[],a,b,Q=>by
  show s a b*Pf s n Q - Ex s a (fun l=>Pf s n (b::l)) Q = -(s b a*Pf s n Q - Ex s b (fun l=>Pf s n (a::l)) Q)
  have:Ex s a (fun l=>Pf s n (b::l)) Q = -Ex s b (fun l=>Pf s n (a::l)) Q:=by
   cases n with
   |zero=>
    rw[y8h (F:=fun l=>Pf s 0 (b::l)) fun l=>rfl,y8h (F:=fun l=>Pf s 0 (a::l)) fun l=>rfl]
    rfl
   |succ n=>exact y8O (F:=Pf s n)
  rw[this,sk a b,dH]
  omega
theorem y6B{F:List Nat->Int}(h:Alt F){i:Nat}:∀(n:Nat) {A B:List Nat},A.length=n->F (i::A++i::B)=0
 |0,A,B,hA=>by
  have:A=[]:=aT.mp hA
  subst this
  have:=h [] i i B
  show F (i::i::B)=0
  have h2:F (i::i::B) = -F (i::i::B):=this
  omega
 |n+1,A,B,hA=>by
  have hne:A≠[]:=fun z=>by rw[z]at hA;simp at hA
  obtain⟨A',y,rfl⟩:∃A' y,A=A'++[y]:=⟨A.dropLast,A.getLast hne,(List.dropLast_concat_getLast hne).symm⟩
  have e1:i::(A'++[y])++i::B=(i::A')++y::i::B:=by simp
  rw[e1,h (i::A') y i B,y6B h n (A:=A') (B:=y::B) (by simpa using hA)]
  rfl
theorem y6X{s:Nat->Nat->Int}(sk:∀a b,s a b = -s b a){n i:Nat}{L:List Nat}(h:i∈L):Ex s i (Pf s n) L=0:=by
 obtain⟨A,B,rfl⟩:=eV h
 exact y6B (x2K sk (n+1)) _ rfl
theorem sg_succ{k:Nat}:sg (k+1) = -sg k:=by rw[sg_add];show sg k*(-1)=_;omega
theorem y5Z{s:Nat->Nat->Int}{x:Nat}:∀{r:List Nat} {F:List Nat->Int},Ex s x F r=((ad r.length).map fun k=>sg k*s x (r.getD k 0)*F (r.eraseIdx k)).sum
 |[],F=>rfl
 |y::r,F=>by
  show s x y*F r - Ex s x (fun l=>F (y::l)) r=((ad (r.length+1)).map fun k=>sg k*s x ((y::r).getD k 0)*F ((y::r).eraseIdx k)).sum
  rw[ci,ay,bF,aK,y5Z (r:=r)]
  have e:((ad r.length).map ((fun k=>sg k*s x ((y::r).getD k 0)*F ((y::r).eraseIdx k))∘Nat.succ)).sum = -((ad r.length).map fun k=>sg k*s x (r.getD k 0)*F (y::r.eraseIdx k)).sum:=by
   have h1:((ad r.length).map ((fun k=>sg k*s x ((y::r).getD k 0)*F ((y::r).eraseIdx k))∘Nat.succ))=(ad r.length).map fun k=>-1*(sg k*s x (r.getD k 0)*F (y::r.eraseIdx k)):=by
    apply bh
    intro k _
    show sg (k+1)*s x (r.getD k 0)*F (y::r.eraseIdx k)=_
    rw[sg_succ,dH,dH]
    omega
   rw[h1,y6s]
   omega
  rw[e]
  show _=1*s x y*F r+_
  rw[Int.one_mul]
  omega
def sk2(T:List (List Bool))(m i j:Nat):Int:=if i<m∧j<m then(if at2 T i j=true then 1 else 0) - (if at2 T j i=true then 1 else 0)else 0
theorem z6e{T:List (List Bool)}{m:Nat}(a b:Nat):sk2 T m a b = -sk2 T m b a:=by
 unfold sk2
 by_cases h:a<m∧b<m
 ·rw[if_pos h,if_pos (show b<m∧a<m from⟨h.2,h.1⟩)];omega
 ·rw[if_neg h,if_neg (show ¬(b<m∧a<m) from fun z=>h ⟨z.2,z.1⟩)];rfl
theorem sk2_sgn{T:List (List Bool)}{m:Nat}(F:Full m T){i j:Nat}(hi:i<m)(hj:j<m)(h:i≠j):sgn T i j=sk2 T m i j:=by
 unfold sgn sk2
 rw[if_pos (show i<m∧j<m from⟨hi,hj⟩)]
 have:=F.two i hi j hj h
 cases h1:at2 T i j <;> cases h2:at2 T j i <;> rw[h1,h2]at this <;> first | rfl | cases this
theorem y1e{T:List (List Bool)}{m:Nat}(F:Full m T):∀{n c:Nat} {L:List Nat},L.Nodup->(∀x∈L,x<m)->L.length=2*c->c≤n->pfS T n L=Pf (sk2 T m) n L
 |0,c,L,_,_,hl,hc=>by
  have:L=[]:=aT.mp (by omega)
  subst this
  rfl
 |n+1,c,[],_,_,_,_=>rfl
 |n+1,c,x::r,nd,hlt,hl,hc=>by
  have nd':=aw.mp nd
  have hr:r.length+1=2*c:=hl
  show((ad r.length).map fun k=>sg k*sgn T x (r.getD k 0)*pfS T n (r.eraseIdx k)).sum=Ex (sk2 T m) x (Pf (sk2 T m) n) r
  rw[y5Z]
  refine z6A fun k hk=>?_
  have hk:=ai.mp hk
  have hy:r.getD k 0∈r:=by
   rw[aH,ac hk]
   exact bL hk
  rw[sk2_sgn F (hlt x af) (hlt _ (ae _ hy)) fun z=>nd'.1 (z ▸ hy),y1e F (n:=n) (c:=c - 1) (nd'.2.sublist (cq r k)) (fun z hz=>hlt z (ae _ (bw hz))) (by rw[be,if_pos hk];omega) (by omega)]
def x1U(T:List (List Bool))(m:Nat):List Int:=(ad m).map fun k=>sg k*pfS T 12 ((ad m).eraseIdx k)
theorem y8n{T:List (List Bool)}{m:Nat}:(x1U T m).length=m:=by simp[x1U]
theorem ker_at{T:List (List Bool)}{m k:Nat}(hk:k<m):(x1U T m).getD k 0=sg k*pfS T 12 ((ad m).eraseIdx k):=by
 unfold x1U
 simp[aZ,ac,hk]
theorem y2D{T:List (List Bool)}{ws:List Int}{m i:Nat}(hi:i<m):∀{n:Nat},n≤m->scr T ws n i=((ad n).map fun j=>sk2 T m i j*ws.getD j 0).sum
 |0,_=>rfl
 |n+1,hn=>by
  have ih:=y2D (T:=T) (ws:=ws) hi (n:=n) (by omega)
  unfold scr at ih ⊢
  rw[y0s,y0s,b8,aD,bR,←ih]
  have e:((([n]:List Nat).map fun j=>sk2 T m i j*ws.getD j 0)).sum=sk2 T m i n*ws.getD n 0:=by simp
  rw[e]
  unfold sk2
  rw[if_pos (show i<m∧n<m from⟨hi,by omega⟩)]
  cases at2 T i n <;> cases at2 T n i <;> simp <;> omega
theorem wo1_eq{m k:Nat}{T:List (List Bool)}(sq:Sq m T)(hm:m≤1000)(hk:k<m):z1g [z0F T,.lst [.int (k:Int)]]=some (z0F (z0J ((ad m).eraseIdx k) (at2 T))):=by
 have w:=z8c (th:=ad m) (T:=T) (by simpa using hm) (no:=[k])
 rw[grid_of sq,aS]at w
 have e:((ad m).filter fun i=>!([k]:List Nat).contains i).map (fun i=>(ad m).getD i 0)=(ad m).eraseIdx k:=by
  have h:=z6E (r:=ad m) (k:=k) (by simpa using hk)
  rw[aS]at h
  rw[←h]
  have hf:(ad m).filter (fun i=>!([k]:List Nat).contains i)=(ad m).filter fun i=>decide (i≠k):=bB fun i _=>by simp
  rw[hf]
 rw[e]at w
 exact w
theorem x0E{m c k:Nat}{T:List (List Bool)}(hm:m=2*c+1)(hc:c≤3)(hk:k<m):z1s [z0F (z0J ((ad m).eraseIdx k) (at2 T))]=some (.int (pfS T 12 ((ad m).eraseIdx k))):=by
 have hel:((ad m).eraseIdx k).length=2*c:=by rw[be,aS,if_pos hk];omega
 exact y6J (by omega) (by omega) hel (by omega)
theorem y7j{m c:Nat}{T:List (List Bool)}(sq:Sq m T)(hm:m=2*c+1)(hc:c≤3):z6m [z0F T]=some (z5d (x1U T m)):=by
 refine z0p rfl ?_
 have cx:z2c (some (z2h 0 m)) (z1J z4C (d2 mulB (z0k z0K [z0d 1]) (z0k z1s [z0k z1g [z0d 0,mkL (z0m [z0d 1])]])) [some (z0F T)])=some ((x1U T m).map .int):=by
  rw[z1p,z5M (fun k=>D.int (sg k*pfS T 12 ((ad m).eraseIdx k))) (by simp;omega) fun k hk=>?_]
  ·unfold x1U
   rw[aK]
   rfl
  ·have hk:=ai.mp hk
   have hel:((ad m).eraseIdx k).length=2*c:=by rw[be,aS,if_pos hk];omega
   have b:=z9D (T:=T) (n:=12) (L:=(ad m).eraseIdx k) (by omega)
   have s1:-1≤sg k∧sg k≤1:=by rcases z5N k with h | h <;> rw[h] <;> omega
   have m1:=y2B (i:=sg k) (j:=pfS T 12 ((ad m).eraseIdx k)) (by omega) (by omega)
   simp! only[nD,y3c,wo1_eq sq (show m≤1000 by omega) hk,x0E hm hc hk,m1]
 simp! only[z9c,z1Z,sq.1,z1u (show m≤1000000 by omega),cx,flat_in,lst_in,z0c]
abbrev Vc:=Nat->Int
inductive Cn(A:List Vc):Vc->Prop where
 |one {a:Vc}:a∈A->Cn A a
 |add {u v:Vc}:Cn A u->Cn A v->Cn A (fun i=>u i+v i)
def z0v:Nat->Vc->Vc->Int
 |0,_,_=>0
 |n+1,y,a=>z0v n y a+y n*a n
theorem z9j{y u v:Vc}:∀{n:Nat},z0v n y (fun i=>u i+v i)=z0v n y u+z0v n y v
 |0=>rfl
 |n+1=>by
  unfold z0v
  rw[z9j]
  grind
theorem z4d{y u:Vc}{c:Int}:∀{n:Nat},z0v n y (fun i=>c*u i)=c*z0v n y u
 |0=>by simp[z0v]
 |n+1=>by
  unfold z0v
  rw[z4d]
  grind
theorem y2W{y u:Vc}{c:Int}:∀{n:Nat},z0v n (fun i=>c*y i) u=c*z0v n y u
 |0=>by simp[z0v]
 |n+1=>by
  unfold z0v
  rw[y2W]
  grind
theorem z2J{y y' u u':Vc}:∀{n:Nat},(∀i,i<n->y i=y' i)->(∀i,i<n->u i=u' i)->z0v n y u=z0v n y' u'
 |0,_,_=>rfl
 |n+1,h,h'=>by
  unfold z0v
  rw[z2J (fun i hi=>h i (by omega)) fun i hi=>h' i (by omega),h n (by omega),h' n (by omega)]
theorem x2Z{A:List Vc}{u:Vc}(h:Cn A u):∀k:Nat,Cn A (fun i=>((k:Int)+1)*u i)
 |0=>by
  have e:(fun i=>(((0:Nat):Int)+1)*u i)=u:=funext fun i=>by simp
  rw[e]
  exact h
 |k+1=>by
  have e:(fun i=>(((k+1:Nat):Int)+1)*u i)=fun i=>((k:Int)+1)*u i+u i:=funext fun i=>by grind
  rw[e]
  exact .add (x2Z h k) h
theorem x3e{A:List Vc}{u:Vc}(h:Cn A u){c:Int}(hc:0<c):Cn A (fun i=>c*u i):=by
 obtain⟨k,rfl⟩:∃k:Nat,c=(k:Int)+1:=⟨(c - 1).toNat,by omega⟩
 exact x2Z h k
def stepV(m:Nat)(A:List Vc):List Vc:=A.filter (fun a=>decide (a m≤0))++(A.filter fun a=>decide (0<a m)).flatMap fun p=>(A.filter fun a=>decide (a m<0)).map fun q=>fun i=>-(q m)*p i+p m*q i
theorem cn_step{m:Nat}{A:List Vc}{v:Vc}(h:Cn (stepV m A) v):Cn A v∧v m≤0:=by
 induction h with
 |one ha=>
  rcases ar.mp ha with h | h
  ·obtain⟨h1,h2⟩:=ag.mp h
   exact⟨.one h1,of_decide_eq_true h2⟩
  ·obtain⟨p,hp,h⟩:=List.mem_flatMap.mp h
   obtain⟨q,hq,rfl⟩:=aO.mp h
   obtain⟨p1,p2⟩:=ag.mp hp
   obtain⟨q1,q2⟩:=ag.mp hq
   have p2:=of_decide_eq_true p2
   have q2:=of_decide_eq_true q2
   refine⟨.add (x3e (.one p1) (by omega)) (x3e (.one q1) p2),?_⟩
   grind
 | @add u v _ _ h1 h2=>exact⟨.add h1.1 h2.1,by have:=h1.2;have:=h2.2;show u m+v m≤0;omega⟩
theorem y0c:∀(l:List (Int×Int)),l≠[]->(∀x∈l,0<x.2)->∃b∈l,∀x∈l,x.1*b.2≤b.1*x.2
 |[],h,_=>absurd rfl h
 |[x],_,_=>⟨x,af,fun y hy=>by rw[aq.mp hy];omega⟩
 |x::y::r,_,hp=>by
  obtain⟨b,hb,h⟩:=y0c (y::r) (by simp) fun z hz=>hp z (ae _ hz)
  have hb2:=hp b (ae _ hb)
  have hx2:=hp x af
  by_cases c:x.1*b.2≤b.1*x.2
  ·refine⟨b,ae _ hb,fun z hz=>?_⟩
   rcases ao.mp hz with rfl | hz
   ·exact c
   ·exact h z hz
  ·refine⟨x,af,fun z hz=>?_⟩
   rcases ao.mp hz with rfl | hz
   ·omega
   ·have h1:=h z hz
    have hz2:=hp z (ae _ hz)
    have h2:z.1*b.2*x.2≤b.1*z.2*x.2:=cz h1 (by omega)
    have h3:b.1*x.2*z.2≤x.1*b.2*z.2:=cz (by omega) (by omega)
    have h4:z.1*x.2*b.2≤x.1*z.2*b.2:=by grind
    exact Int.le_of_mul_le_mul_right h4 hb2
theorem x0e:∀(m:Nat) (A:List Vc),∃K:Int,0<K∧∀a∈A,-(a m)<K
 |_,[]=>⟨1,by decide,fun _ h=>nomatch h⟩
 |m,a::r=>by
  obtain⟨K,h1,h2⟩:=x0e m r
  refine⟨K+(if 0 < -(a m)then -(a m)else 0),by split <;> omega,fun b hb=>?_⟩
  rcases ao.mp hb with rfl | hb
  ·split <;> omega
  ·have:=h2 b hb
   split <;> omega
theorem ville:∀(m:Nat) (A:List Vc),(∃v,Cn A v∧∀i,i<m->v i≤0)∨∃y:Vc,(∀i,i<m->0≤y i)∧∀a∈A,0<z0v m y a
 |0,[]=>.inr ⟨fun _=>0,fun _ h=>(by omega),fun _ h=>nomatch h⟩
 |0,a::r=>.inl ⟨a,.one af,fun _ h=>(by omega)⟩
 |m+1,A=>by
  rcases ville m (stepV m A)with⟨v,hv,h⟩ | ⟨y,y0,hy⟩
  ·obtain⟨h1,h2⟩:=cn_step hv
   refine .inl ⟨v,h1,fun i hi=>?_⟩
   by_cases e:i=m
   ·subst e;exact h2
   ·exact h i (by omega)
  ·have hn:∀a∈A,a m≤0->0<z0v m y a:=fun a ha h=>hy a (ar.mpr (.inl (ag.mpr ⟨ha,decide_eq_true h⟩)))
   have hpq:∀p∈A,∀q∈A,0<p m->q m<0->0 < -(q m)*z0v m y p+p m*z0v m y q:=fun p hp q hq h1 h2=>by
    have:=hy (fun i=>-(q m)*p i+p m*q i) (ar.mpr (.inr (List.mem_flatMap.mpr ⟨p,ag.mpr ⟨hp,decide_eq_true h1⟩,aO.mpr ⟨q,ag.mpr ⟨hq,decide_eq_true h2⟩,rfl⟩⟩)))
    rwa [z9j (u:=fun i=>-(q m)*p i) (v:=fun i=>p m*q i),z4d,z4d]at this
   by_cases hP:∃p∈A,0<p m∧z0v m y p≤0
   ·obtain⟨p0,hp0,hp1,hp2⟩:=hP
    obtain⟨b,hb,hbest⟩:=y0c ((A.filter fun a=>decide (0<a m)).map fun a=>(-(z0v m y a),a m)) (by
     intro e
     have:(-(z0v m y p0),p0 m)∈(A.filter fun a=>decide (0<a m)).map fun a=>(-(z0v m y a),a m):=aO.mpr ⟨p0,ag.mpr ⟨hp0,decide_eq_true hp1⟩,rfl⟩
     rw[e]at this
     cases this) (fun x hx=>by
     obtain⟨a,ha,rfl⟩:=aO.mp hx
     exact of_decide_eq_true (ag.mp ha).2)
    obtain⟨pb,hpb,rfl⟩:=aO.mp hb
    obtain⟨hb1,hb2⟩:=ag.mp hpb
    have hb2:=of_decide_eq_true hb2
    have hq:∀p∈A,0<p m->-(z0v m y p)*pb m≤-(z0v m y pb)*p m:=fun p hp h=>hbest (-(z0v m y p),p m) (aO.mpr ⟨p,ag.mpr ⟨hp,decide_eq_true h⟩,rfl⟩)
    have ha0:0≤-(z0v m y pb):=by
     have h1:=hq p0 hp0 hp1
     have h2:0≤-(z0v m y p0)*pb m:=br (by omega) (by omega)
     by_cases z:0≤-(z0v m y pb)
     ·exact z
     ·have h3:=Int.mul_neg_of_neg_of_pos (show -(z0v m y pb)<0 by omega) hp1
      omega
    obtain⟨K,k0,hK⟩:=x0e m A
    obtain⟨al,hal⟩:∃al,al = -(z0v m y pb):=⟨_,rfl⟩
    obtain⟨rb,hrb⟩:∃rb,rb=pb m:=⟨_,rfl⟩
    rw[←hal]at ha0 hq
    rw[←hrb]at hb2 hq
    refine .inr ⟨fun i=>if i=m then K*al+1 else K*rb*y i,fun i hi=>?_,fun a ha=>?_⟩
    ·show 0≤if i=m then K*al+1 else K*rb*y i
     have h1:=br (show 0≤K by omega) ha0
     split
     ·omega
     ·exact br (br (by omega) (by omega)) (y0 i (by omega))
    ·show 0<z0v m _ a+(if m=m then K*al+1 else K*rb*y m)*a m
     rw[if_pos rfl,z2J (y':=fun i=>K*rb*y i) (u':=a) (fun i hi=>if_neg (by omega)) (fun _ _=>rfl),y2W]
     obtain⟨d,hd⟩:∃d,d=z0v m y a:=⟨_,rfl⟩
     have kr:=cA k0 hb2
     by_cases h1:0<a m
     ·have h2:=hq a ha h1
      rw[←hd]at h2 ⊢
      have h3:0≤K*(al*a m - -d*rb):=br (by omega) (by omega)
      grind
     ·by_cases h2:a m=0
      ·have h3:=hn a ha (by omega)
       rw[←hd]at h3 ⊢
       have:=cA kr h3
       rw[h2]
       omega
      ·have h3:=hpq pb hb1 a ha (by omega) (by omega)
       have h4:=hK a ha
       rw[←hd,←hrb,show z0v m y pb = -al by omega]at h3
       rw[←hd]
       have h5:K*1≤K*(-(a m) * -al+rb*d):=dI (by omega) (by omega)
       grind
   ·have hP:∀p∈A,0<p m->0<z0v m y p:=fun p hp h=>by
     by_cases z:0<z0v m y p
     ·exact z
     ·exact absurd ⟨p,hp,h,by omega⟩ hP
    refine .inr ⟨fun i=>if i=m then 0 else y i,fun i hi=>?_,fun a ha=>?_⟩
    ·show 0≤if i=m then 0 else y i
     split
     ·omega
     ·exact y0 i (by omega)
    ·show 0<z0v m _ a+(if m=m then 0 else y m)*a m
     rw[if_pos rfl,z2J (y':=y) (u':=a) (fun i hi=>if_neg (by omega)) (fun _ _=>rfl),dl,Int.add_zero]
     by_cases h1:0<a m
     ·exact hP a ha h1
     ·exact hn a ha (by omega)
theorem z9W{a:Vc}:∀{n:Nat} {y:Vc},(∀i,i<n->y i=0)->z0v n y a=0
 |0,_,_=>rfl
 |n+1,y,h=>by
  unfold z0v
  rw[z9W (n:=n) fun i hi=>h i (by omega),h n (by omega),dl]
  rfl
theorem y4J{y z a:Vc}:∀{n:Nat},z0v n (fun i=>y i+z i) a=z0v n y a+z0v n z a
 |0=>rfl
 |n+1=>by
  unfold z0v
  rw[y4J]
  grind
theorem y5T{a:Vc}{j:Nat}:∀{n:Nat},j<n->z0v n (fun i=>if i=j then 1 else 0) a=a j
 |0,h=>by omega
 |n+1,h=>by
  unfold z0v
  by_cases e:n=j
  ·subst e
   rw[z9W (n:=n) fun i hi=>if_neg (by omega)]
   show 0+(if n=n then 1 else 0)*a n=a n
   rw[if_pos rfl]
   omega
  ·rw[y5T (n:=n) (by omega)]
   show a j+(if n=j then 1 else 0)*a n=a j
   rw[if_neg e]
   omega
theorem z6h{x z:Vc}{a:Nat->Nat->Int}{n:Nat}:∀{m:Nat},z0v m x (fun i=>z0v n z (fun j=>a i j))=z0v n z (fun j=>z0v m x (fun i=>a i j))
 |0=>by
  show(0:Int)=z0v n z fun _=>0
  have:=z4d (y:=z) (u:=fun _=>0) (c:=0) (n:=n)
  simp at this
  exact this.symm
 |m+1=>by
  show z0v m x (fun i=>z0v n z fun j=>a i j)+x m*z0v n z (fun j=>a m j)=z0v n z (fun j=>z0v m x (fun i=>a i j)+x m*a m j)
  rw[z6h (m:=m),z9j (u:=fun j=>z0v m x (fun i=>a i j)) (v:=fun j=>x m*a m j),z4d]
theorem z5B{y u:Vc}{n:Nat}:z0v n y (fun i=>-u i) = -z0v n y u:=by
 have:=z4d (y:=y) (u:=u) (c:=-1) (n:=n)
 have e:(fun i=>-1*u i)=fun i=>-u i:=funext fun i=>by omega
 rw[e]at this
 omega
theorem y2Y{s:Nat->Nat->Int}(sk:∀a b,s a b = -s b a){m:Nat}{x:Vc}:z0v m x (fun i=>z0v m x (s i))=0:=by
 have h1:=z6h (x:=x) (z:=x) (a:=s) (n:=m) (m:=m)
 have e:(fun j=>z0v m x (fun i=>s i j))=fun j=>-z0v m x (s j):=funext fun j=>by
  rw[←z5B]
  exact z2J (fun _ _=>rfl) fun i _=>sk i j
 rw[e,z5B]at h1
 have h1:z0v m x (fun i=>z0v m x (s i)) = -z0v m x (fun i=>z0v m x (s i)):=h1
 omega
theorem z7V{a:Vc}:∀{n:Nat} {y:Vc},(∀i,i<n->0≤y i*a i)->0≤z0v n y a∧∀i,i<n->y i*a i≤z0v n y a
 |0,y,_=>⟨cf _,fun i hi=>by omega⟩
 |n+1,y,h=>by
  obtain⟨h1,h2⟩:=z7V (n:=n) fun i hi=>h i (by omega)
  have h3:=h n (by omega)
  refine⟨by unfold z0v;omega,fun i hi=>?_⟩
  unfold z0v
  by_cases e:i=n
  ·subst e;omega
  ·have:=h2 i (by omega)
   omega
theorem cn_coef{s:Nat->Nat->Int}{m:Nat}{v:Vc}(h:Cn ((ad m).map fun j=>fun i=>s i j) v):∃x:Vc,(∀i,0≤x i)∧(∃i,i<m∧0<x i)∧(∀i,m≤i->x i=0)∧∀i,v i=z0v m x (s i):=by
 induction h with
 |one ha=>
  obtain⟨j,hj,rfl⟩:=aO.mp ha
  have hj:=ai.mp hj
  refine⟨fun i=>if i=j then 1 else 0,fun i=>by dsimp only;split <;> omega,⟨j,hj,by dsimp only;rw[if_pos rfl];omega⟩,fun i hi=>if_neg (by omega),fun i=>(y5T hj).symm⟩
 |add _ _ h1 h2=>
  obtain⟨x,a1,⟨i,hi,a2⟩,a3,a4⟩:=h1
  obtain⟨z,b1,_,b3,b4⟩:=h2
  refine⟨fun i=>x i+z i,fun i=>by have:=a1 i;have:=b1 i;dsimp only;omega,⟨i,hi,by have:=b1 i;dsimp only;omega⟩,fun i hi=>by dsimp only;rw[a3 i hi,b3 i hi];rfl,fun i=>?_⟩
  rw[y4J,←a4,←b4]
theorem y6P{s:Nat->Nat->Int}(sk:∀a b,s a b = -s b a){m:Nat}(hm:0<m):∃x:Vc,(∀i,0≤x i)∧(∃i,i<m∧0<x i)∧(∀i,i<m->z0v m x (s i)≤0)∧∀i,i<m->0<x i->z0v m x (s i)=0:=by
 rcases ville m ((ad m).map fun j=>fun i=>s i j)with⟨v,hv,h⟩ | ⟨y,y0,hy⟩
 ·obtain⟨x,h1,h2,h3,h4⟩:=cn_coef hv
  have hu:∀i,i<m->z0v m x (s i)≤0:=fun i hi=>by rw[←h4];exact h i hi
  refine⟨x,h1,h2,hu,fun i hi hx=>?_⟩
  have h5:=y2Y sk (m:=m) (x:=x)
  have h6:=z7V (n:=m) (y:=x) (a:=fun i=>-z0v m x (s i)) fun i hi=>br (h1 i) (by have:=hu i hi;omega)
  rw[z5B,h5]at h6
  have h7:=h6.2 i hi
  have h8:=hu i hi
  by_cases z:z0v m x (s i)=0
  ·exact z
  ·have:=cA hx (show 0 < -z0v m x (s i) by omega)
   have h7:x i * -z0v m x (s i)≤-0:=h7
   omega
 ·have hy:∀j,j<m->0<z0v m y (fun i=>s i j):=fun j hj=>hy _ (aO.mpr ⟨j,ai.mpr hj,rfl⟩)
  have h5:z0v m y (fun j=>z0v m y (fun i=>s i j))=0:=by
   rw[←z6h (x:=y) (z:=y) (a:=s) (n:=m) (m:=m)]
   exact y2Y sk
  have h6:=z7V (n:=m) (y:=y) (a:=fun j=>z0v m y (fun i=>s i j)) fun i hi=>br (y0 i hi) (by have:=hy i hi;omega)
  rw[h5]at h6
  have hz:∀i,i<m->y i=0:=fun i hi=>by
   have h7:=h6.2 i hi
   have h8:=y0 i hi
   by_cases z:y i=0
   ·exact z
   ·have:=cA (show 0<y i by omega) (hy i hi)
    omega
  have:=hy 0 hm
  rw[z9W hz]at this
  omega
def z1F(L:List Nat)(f:Nat->Int):Int:=(L.map f).sum
theorem z0U{a:Nat}{L:List Nat}{f:Nat->Int}:z1F (a::L) f=f a+z1F L f:=by unfold z1F;simp
theorem z3S{L:List Nat}{f g:Nat->Int}(h:∀x∈L,f x=g x):z1F L f=z1F L g:=by
 unfold z1F
 rw[bh h]
theorem y2A{L:List Nat}{f:Nat->Int}(h:∀x∈L,f x=0):z1F L f=0:=by
 induction L with
 |nil=>rfl
 |cons a r ih=>rw[z0U,h a af,ih fun x hx=>h x (ae _ hx)];rfl
theorem x3s{L:List Nat}{f g:Nat->Int}:z1F L (fun x=>f x+g x)=z1F L f+z1F L g:=by
 induction L with
 |nil=>rfl
 |cons a r ih=>rw[z0U,z0U,z0U,ih];omega
theorem ls_mul{L:List Nat}{f:Nat->Int}{c:Int}:z1F L (fun x=>c*f x)=c*z1F L f:=by
 induction L with
 |nil=>show(0:Int)=c*0;omega
 |cons a r ih=>rw[z0U,z0U,ih,Int.mul_add]
theorem ls_swap{L M:List Nat}{f:Nat->Nat->Int}:z1F L (fun a=>z1F M fun b=>f a b)=z1F M (fun b=>z1F L fun a=>f a b):=by
 induction L with
 |nil=>exact(y2A fun _ _=>rfl).symm
 |cons a r ih=>rw[z0U,ih,←x3s];exact z3S fun b _=>(z0U (f:=fun a=>f a b)).symm
theorem y6d{L M:List Nat}{f:Nat->Int}(h:L.Perm M):z1F L f=z1F M f:=by
 induction h with
 |nil=>rfl
 |cons x _ ih=>rw[z0U,z0U,ih]
 |swap x y l=>rw[z0U,z0U,z0U,z0U];omega
 |trans _ _ h1 h2=>rw[h1,h2]
theorem y1v{L:List Nat}{p:Nat->Bool}{f:Nat->Int}(h:∀x∈L,p x=false->f x=0):z1F (L.filter p) f=z1F L f:=by
 induction L with
 |nil=>rfl
 |cons a r ih=>
  have ih:=ih fun x hx=>h x (ae _ hx)
  rw[bf]
  cases e:p a with
  |true=>rw[if_pos rfl,z0U,z0U,ih]
  |false=>rw[if_neg ak,z0U,ih,h a af e];omega
theorem y9i{y a:Vc}:∀{n:Nat},z0v n y a=z1F (ad n) fun i=>y i*a i
 |0=>rfl
 |n+1=>by
  unfold z0v
  rw[y9i (n:=n)]
  unfold z1F
  rw[b8,aD,bR]
  simp
section
variable{s:Nat->Nat->Int}{m:Nat}
def idx(S:List Nat)(t:Nat):Nat:=S.idxOf t
def vt(s:Nat->Nat->Int)(S:List Nat)(t:Nat):Int:=sg (idx S t)*Pf s 12 (S.eraseIdx (idx S t))
theorem x2y{S:List Nat}(nd:S.Nodup){k:Nat}(hk:k<S.length):idx S (S.getD k 0)=k:=by
 unfold idx
 rw[aH,ac hk]
 exact List.Nodup.idxOf_getElem nd k hk
theorem ls_idx{S:List Nat}{f:Nat->Int}:z1F S f=z1F (ad S.length) fun k=>f (S.getD k 0):=by
 unfold z1F
 congr 1
 apply bv
 ·simp
 ·intro i h1 h2
  have h1:i<S.length:=by simpa using h1
  simp[aZ,ac h1]
theorem y9r{S:List Nat}(nd:S.Nodup){i:Nat}:Ex s i (Pf s 12) S=z1F S fun t=>s i t*vt s S t:=by
 rw[y5Z,ls_idx]
 unfold z1F
 congr 1
 apply bh
 intro k hk
 have hk:=ai.mp hk
 unfold vt
 rw[x2y nd hk]
 ac_rfl
structure OddPf(s:Nat->Nat->Int)(m:Nat):Prop where
 sk:∀a b,s a b = -s b a
 one:∀L:List Nat,L.Nodup->(∀x∈L,x<m)->L.length % 2=0->Pf s 12 L % 2=1
 two:∀(i:Nat) (R:List Nat),(i::R).Nodup->(∀x∈i::R,x<m)->R.length % 2=1->Ex s i (Pf s 12) R % 2=1
theorem y1l(O:OddPf s m){i:Nat}{R:List Nat}(nd:(i::R).Nodup)(hlt:∀x∈i::R,x<m)(hR:R.length % 2=1){z:Nat->Int}(h:∀y∈R,z1F (i::R) (fun t=>s y t*z t)=0):z i=0:=by
 have nd':=(aw.mp nd).2
 have hG:∀y∈R,z1F R (fun t=>s y t*vt s R t)=0:=fun y hy=>by rw[←y9r nd'];exact y6X O.sk hy
 have hi:=O.two i R nd hlt hR
 rw[y9r nd']at hi
 have e0:z1F R (fun y=>vt s R y*z1F (i::R) (fun t=>s y t*z t))=0:=y2A fun y hy=>by rw[h y hy];omega
 have e1:z1F R (fun y=>vt s R y*z1F (i::R) (fun t=>s y t*z t))=z1F (i::R) (fun t=>-(z t*z1F R (fun y=>s t y*vt s R y))):=by
  have a1:z1F R (fun y=>vt s R y*z1F (i::R) (fun t=>s y t*z t))=z1F R (fun y=>z1F (i::R) (fun t=>vt s R y*(s y t*z t))):=z3S fun y _=>ls_mul.symm
  rw[a1,ls_swap]
  refine z3S fun t _=>?_
  have a2:-(z t*z1F R (fun y=>s t y*vt s R y)) = -z t*z1F R (fun y=>s t y*vt s R y):=by rw[dH]
  rw[a2,←ls_mul]
  refine z3S fun y _=>?_
  rw[O.sk y t]
  grind
 have e2:z1F R (fun t=>-(z t*z1F R (fun y=>s t y*vt s R y)))=0:=y2A fun t ht=>by rw[hG t ht];omega
 rw[e1,z0U,e2]at e0
 rcases dO.mp (show z i*z1F R (fun y=>s i y*vt s R y)=0 by omega)with h | h
 ·exact h
 ·rw[h]at hi
  cases hi
variable{x:Vc}
structure Ev(s:Nat->Nat->Int)(m:Nat)(x:Vc):Prop where
 nn:∀i,0≤x i
 some:∃i,i<m∧0<x i
 le:∀i,i<m->z0v m x (s i)≤0
 eq:∀i,i<m->0<x i->z0v m x (s i)=0
def z5c(m:Nat)(x:Vc):List Nat:=(ad m).filter fun i=>decide (0<x i)
theorem z8Z:(z5c m x).Nodup:=List.nodup_range.filter _
theorem z7c:∀t∈z5c m x,t<m:=fun t ht=>ai.mp (ag.mp ht).1
theorem z6n:∀t∈z5c m x,0<x t:=fun t ht=>of_decide_eq_true (ag.mp ht).2
theorem z9K(nn:∀i,0≤x i){a:Vc}:z0v m x a=z1F (z5c m x) fun t=>a t*x t:=by
 rw[y9i,show(fun i=>x i*a i)=fun t=>a t*x t from funext fun i=>cH _ _]
 refine(y1v fun i _ hp=>?_).symm
 have:=of_decide_eq_false hp
 have:=nn i
 rw[show x i=0 by omega,Int.mul_zero]
theorem y8z(O:OddPf s m)(E:Ev s m x):(z5c m x).length % 2=1:=by
 have hne:z5c m x≠[]:=fun e=>by
  obtain⟨i,hi,hx⟩:=E.some
  have:i∈z5c m x:=ag.mpr ⟨ai.mpr hi,decide_eq_true hx⟩
  rw[e]at this
  cases this
 obtain⟨i,R,e⟩:∃i R,z5c m x=i::R:=by
  cases h:z5c m x with
  |nil=>exact absurd h hne
  |cons a r=>exact⟨a,r,rfl⟩
 have nd:=z8Z (m:=m) (x:=x)
 have lt:=z7c (m:=m) (x:=x)
 have ps:=z6n (m:=m) (x:=x)
 by_cases hR:(z5c m x).length % 2=1
 ·exact hR
 ·have z:=y1l O (i:=i) (R:=R) (e ▸ nd) (e ▸ lt) (by rw[e,aX]at hR;omega) (z:=x) fun y hy=>by
   have hy':y∈z5c m x:=by rw[e];exact ae _ hy
   rw[←e,←z9K E.nn (a:=s y)]
   exact E.eq y (lt y hy') (ps y hy')
  have:=ps i (by rw[e];exact af)
  omega
theorem ev_prop(O:OddPf s m)(E:Ev s m x){a b:Nat}(ha:a∈z5c m x)(hb:b∈z5c m x):vt s (z5c m x) b*x a=x b*vt s (z5c m x) a:=by
 by_cases hab:a=b
 ·subst hab;exact cH _ _
 ·have nd:=z8Z (m:=m) (x:=x)
  have lt:=z7c (m:=m) (x:=x)
  have ps:=z6n (m:=m) (x:=x)
  have od:=y8z O E
  obtain⟨S,hS⟩:∃S,S=z5c m x:=⟨_,rfl⟩
  rw[←hS]at ha hb nd lt ps od ⊢
  have p1:S.Perm (a::S.erase a):=eJ ha
  have hb':b∈S.erase a:=(List.mem_erase_of_ne (Ne.symm hab)).mpr hb
  have p2:S.Perm (b::a::(S.erase a).erase b):=(p1.trans ((eJ hb').cons a)).trans (.swap _ _ _)
  have nd2:(b::a::(S.erase a).erase b).Nodup:=p2.nodup_iff.mp nd
  have z:=y1l O (i:=a) (R:=(S.erase a).erase b) (aw.mp nd2).2 (fun t ht=>lt t (p2.mem_iff.mpr (ae _ ht))) (by
   have:=p2.length_eq
   simp only[aX]at this
   omega) (z:=fun t=>vt s S b*x t - x b*vt s S t) fun y hy=>by
    have hyS:y∈S:=p2.mem_iff.mpr (ae _ (ae _ hy))
    have e1:z1F S (fun t=>s y t*(vt s S b*x t - x b*vt s S t))=0:=by
     have a1:(fun t=>s y t*(vt s S b*x t - x b*vt s S t))=fun t=>vt s S b*(s y t*x t) + -x b*(s y t*vt s S t):=funext fun t=>by grind
     rw[a1,x3s,ls_mul,ls_mul,←y9r nd,y6X O.sk hyS]
     have a2:=E.eq y (lt y hyS) (ps y hyS)
     rw[z9K E.nn,←hS]at a2
     rw[a2]
     omega
    rw[y6d p2,z0U]at e1
    have e2:s y b*(vt s S b*x b - x b*vt s S b)=0:=by
     rw[cH (vt s S b)]
     simp
    omega
  omega
theorem ev_ker(O:OddPf s m)(E:Ev s m x):∃ε:Int,(ε=1∨ε = -1)∧(∀t∈z5c m x,0<ε*vt s (z5c m x) t)∧(∀i,i<m->i∉z5c m x->ε*z1F (z5c m x) (fun t=>s i t*vt s (z5c m x) t)<0):=by
 have nd:=z8Z (m:=m) (x:=x)
 have lt:=z7c (m:=m) (x:=x)
 have ps:=z6n (m:=m) (x:=x)
 have od:=y8z O E
 have pr:=fun {a b:Nat}=>ev_prop O E (a:=a) (b:=b)
 obtain⟨S,hS⟩:∃S,S=z5c m x:=⟨_,rfl⟩
 rw[←hS]at nd lt ps od ⊢
 have pr:∀{a b:Nat},a∈S->b∈S->vt s S b*x a=x b*vt s S a:=by rw[hS];exact pr
 obtain⟨b,hb⟩:∃b,b∈S:=by
  cases h:S with
  |nil=>rw[h]at od;cases od
  |cons a r=>exact⟨a,af⟩
 have hv:∀t∈S,vt s S t≠0:=fun t ht h=>by
  have hk:idx S t<S.length:=dN ht
  have:=O.one (S.eraseIdx (idx S t)) (nd.sublist (cq _ _)) (fun y hy=>lt y (bw hy)) (by rw[be,if_pos hk];omega)
  unfold vt at h
  rcases z5N (idx S t)with e | e <;> rw[e]at h <;> omega
 have xb:=ps b hb
 obtain⟨ε,he,hε⟩:∃ε:Int,(ε=1∨ε = -1)∧0<ε*vt s S b:=by
  by_cases h:0<vt s S b
  ·exact⟨1,.inl rfl,by omega⟩
  ·exact⟨-1,.inr rfl,by have:=hv b hb;omega⟩
 refine⟨ε,he,fun t ht=>?_,fun i hi hn=>?_⟩
 ·have h1:=pr ht hb
  have h2:=cA hε (ps t ht)
  have h3:x b*(ε*vt s S t)=ε*vt s S b*x t:=by grind
  rw[←h3,cH]at h2
  exact eh h2 xb
 ·have h1:=O.two i S (aw.mpr ⟨hn,nd⟩) (fun y hy=>by
   rcases ao.mp hy with rfl | hy
   ·exact hi
   ·exact lt y hy) od
  rw[y9r nd]at h1
  have h2:=E.le i hi
  rw[z9K E.nn,←hS]at h2
  have h3:x b*z1F S (fun t=>s i t*vt s S t)=vt s S b*z1F S (fun t=>s i t*x t):=by
   rw[←ls_mul,←ls_mul]
   refine z3S fun t ht=>?_
   have:=pr ht hb
   grind
  obtain⟨g,hg⟩:∃g,g=z1F S (fun t=>s i t*vt s S t):=⟨_,rfl⟩
  obtain⟨u,hu⟩:∃u,u=z1F S (fun t=>s i t*x t):=⟨_,rfl⟩
  rw[←hg]at h1 h3 ⊢
  rw[←hu]at h2 h3
  have h4:x b*(ε*g)=ε*vt s S b*u:=by grind
  have h5:ε*vt s S b*u≤0:=Int.mul_nonpos_of_nonneg_of_nonpos (by omega) h2
  have h6:ε*g≠0:=fun z=>by
   rcases dO.mp z with z | z
   ·omega
   ·rw[z]at h1;cases h1
  by_cases z:ε*g<0
  ·exact z
  ·have:=cA xb (show 0<ε*g by omega)
   omega
end
theorem y6I{m:Nat}{L:List Nat}(nd:L.Nodup)(h:∀x∈L,x<m):L.length≤m:=by
 have:=List.Nodup.length_le_of_subset nd (l₂:=ad m) fun x hx=>ai.mpr (h x hx)
 rwa [aS]at this
theorem odd_pf{T:List (List Bool)}{m:Nat}(F:Full m T)(hm:m≤8):OddPf (sk2 T m) m where
 sk:=z6e
 one:=fun L nd h he=>by
  have hl:=y6I nd h
  rw[←y1e F (c:=L.length / 2) nd h (by omega) (by omega)]
  exact y4f (c:=L.length / 2) (by omega)
 two:=fun i R nd h he=>by
  have hl:=y6I nd h
  have hl':R.length+1≤m:=hl
  show Pf (sk2 T m) 13 (i::R) % 2=1
  rw[←y1e F (c:=(R.length+1) / 2) nd h (by show R.length+1=_;omega) (by omega)]
  exact y4f (c:=(R.length+1) / 2) (by show R.length+1=_;omega)
theorem y9j{T:List (List Bool)}{S:List Nat}:∀{n:Nat} {L:List Nat},(∀k∈L,k<S.length)->pfS (z0J S (at2 T)) n L=pfS T n (L.map fun k=>S.getD k 0)
 |0,_,_=>rfl
 |n+1,[],_=>rfl
 |n+1,x::r,h=>by
  show((ad r.length).map fun k=>sg k*sgn (z0J S (at2 T)) x (r.getD k 0)*pfS (z0J S (at2 T)) n (r.eraseIdx k)).sum=((ad (r.map fun k=>S.getD k 0).length).map fun k=>sg k*sgn T (S.getD x 0) ((r.map fun k=>S.getD k 0).getD k 0)*pfS T n ((r.map fun k=>S.getD k 0).eraseIdx k)).sum
  rw[ah]
  refine z6A fun k hk=>?_
  have hk:=ai.mp hk
  have hy:r.getD k 0∈r:=by
   rw[aH,ac hk]
   exact bL hk
  have e1:(r.map fun k=>S.getD k 0).getD k 0=S.getD (r.getD k 0) 0:=by simp[aZ,ac hk]
  have e2:sgn (z0J S (at2 T)) x (r.getD k 0)=sgn T (S.getD x 0) (S.getD (r.getD k 0) 0):=by
   unfold sgn
   rw[y3b (h x af) (h _ (ae _ hy))]
  rw[e1,e2,y9j (n:=n) fun j hj=>h j (ae _ (bw hj)),z4B]
theorem rng_map{S:List Nat}:(ad S.length).map (fun k=>S.getD k 0)=S:=by
 apply bv
 ·simp
 ·intro i h1 h2
  simp[aZ,ac h2]
theorem er_map{S:List Nat}{k:Nat}:((ad S.length).eraseIdx k).map (fun k=>S.getD k 0)=S.eraseIdx k:=by rw[←z4B,rng_map]
theorem x1T{T:List (List Bool)}{m c:Nat}(F:Full m T){S:List Nat}(nd:S.Nodup)(hlt:∀x∈S,x<m)(hl:S.length=2*c+1)(hc:c≤3):x1U (z0J S (at2 T)) S.length=S.map (vt (sk2 T m) S):=by
 apply bv
 ·rw[y8n,ah]
 ·intro k h1 h2
  have hk:k<S.length:=by simpa using h2
  have e1:=ker_at (T:=z0J S (at2 T)) hk
  rw[aH,ac (by rw[y8n];exact hk)]at e1
  have e1:(x1U (z0J S (at2 T)) S.length)[k]=sg k*pfS (z0J S (at2 T)) 12 ((ad S.length).eraseIdx k):=e1
  rw[e1,bY,y9j fun j hj=>ai.mp (bw hj),er_map]
  have hi:=x2y nd hk
  rw[aH,ac hk]at hi
  have hi:idx S S[k]=k:=hi
  unfold vt
  rw[hi,y1e F (c:=c) (nd.sublist (cq _ k)) (fun x hx=>hlt x (bw hx)) (by rw[be,if_pos hk];omega) (by omega)]
def dfI:Nat->Int
 |0=>1
 |c+1=>(2*(c:Int)+1)*dfI c
theorem pf_df{T:List (List Bool)}:∀{n c:Nat} {L:List Nat},L.length=2*c->-dfI c≤pfS T n L∧pfS T n L≤dfI c
 |_,0,L,h=>by
  have:L=[]:=aT.mp (by omega)
  subst this
  rename_i n
  have e:pfS T n []=1:=by cases n <;> rfl
  rw[e]
  decide
 |0,c+1,L,h=>by
  have h1:∀c,1≤dfI c:=fun c=>by
   induction c with
   |zero=>decide
   |succ c ih=>
    have:=Int.mul_le_mul (show(1:Int)≤2*(c:Int)+1 by omega) ih (by omega) (by omega)
    exact this
  have:=h1 (c+1)
  show -dfI (c+1)≤1∧(1:Int)≤dfI (c+1)
  omega
 |n+1,c+1,[],h=>by simp at h
 |n+1,c+1,x::r,h=>by
  have hr:r.length=2*c+1:=by simp at h;omega
  have:=z6T (c:=r.length) (B:=dfI c) (f:=fun k=>sg k*sgn T x (r.getD k 0)*pfS T n (r.eraseIdx k)) fun k hk=>by
   have b:=pf_df (T:=T) (n:=n) (c:=c) (L:=r.eraseIdx k) (by rw[be,if_pos hk];omega)
   show -dfI c≤sg k*sgn T x (r.getD k 0)*pfS T n (r.eraseIdx k)∧sg k*sgn T x (r.getD k 0)*pfS T n (r.eraseIdx k)≤dfI c
   rcases z5N k with h | h <;> rcases z5s T x (r.getD k 0)with h' | h' <;> rw[h,h'] <;> omega
  have e:dfI (c+1)=(r.length:Int)*dfI c:=by
   show(2*(c:Int)+1)*dfI c=_
   rw[hr]
   rfl
  rw[e]
  exact this
theorem df_15{c:Nat}(h:c≤3):dfI c≤15:=by
 rcases c with _ | _ | _ | _ | c
 ·decide
 ·decide
 ·decide
 ·decide
 ·omega
theorem vt_of{T:List (List Bool)}{m c:Nat}(F:Full m T){S:List Nat}(nd:S.Nodup)(hlt:∀x∈S,x<m)(hl:S.length=2*c+1)(hc:c≤3){t:Nat}(ht:t∈S):vt (sk2 T m) S t % 2=1∧(vt (sk2 T m) S t).natAbs≤15:=by
 have hk:idx S t<S.length:=dN ht
 have hle:(S.eraseIdx (idx S t)).length=2*c:=by rw[be,if_pos hk];omega
 unfold vt
 rw[←y1e F (c:=c) (nd.sublist (cq _ _)) (fun x hx=>hlt x (bw hx)) hle (by omega)]
 have h1:=y4f (T:=T) (n:=12) hle
 have h2:=pf_df (T:=T) (n:=12) hle
 have h3:=df_15 hc
 rcases z5N (idx S t)with h | h <;> rw[h] <;> omega
theorem two_eq{a b:Nat}(hb:b≤90):z1k [.int (a:Int),.int (b:Int)]=some (.int ((dP a b:Nat):Int)):=by
 refine z0p rfl ?_
 simp! only[z1N]
 refine z0z (I:=fun s=>∃o1 o2,s=[some (.sh (.int ((dP a b:Nat):Int))),o1,o2]) ?_ ?_
 ·refine z3s (fun n s=>∃(x y:Nat) (o2:Option SD),s=[some (.sh (.int (x:Int))),some (.sh (.int (y:Int))),o2]∧dP x y=dP a b∧y≤n) (n:=b) ⟨a,b,_,rfl,rfl,aj _⟩ ?_ (by omega)
  rintro n s ⟨x,y,o2,rfl,hg,hy⟩
  refine⟨decide ((y:Int)>0),by simp! only[],fun hk=>?_,fun hk=>?_⟩
  ·have hk:=of_decide_eq_false hk
   have:y=0:=by omega
   subst this
   rw[Nat.gcd_zero_right]at hg
   exact⟨_,rfl,_,_,by rw[hg]⟩
  ·have hk:=of_decide_eq_true hk
   have md:z4y (.int (x:Int)) (.int (y:Int))=some (.int ((x % y:Nat):Int)):=z2D (by omega)
   refine⟨n - 1,by omega,?_⟩
   simp! only[md,z0c]
   refine⟨y,x % y,_,rfl,?_,?_⟩
   ·rw[←hg,Nat.gcd_comm x y,Nat.gcd_rec y x,Nat.gcd_comm]
   ·have:=Nat.mod_lt x (show 0<y by omega)
    omega
 ·rintro s ⟨o1,o2,rfl⟩
  simp! only[z0c]
def gcL(vs:List Int):Nat:=vs.foldl (fun g v=>dP g v.natAbs) 0
theorem y3I{vs:List Int}{v:Int}:gcL (vs++[v])=dP (gcL vs) v.natAbs:=by
 unfold gcL
 rw[List.foldl_append]
 rfl
theorem y8a{vs:List Int}(h:∀v∈vs,v.natAbs≤90):z1l [z5d vs]=some (.int ((gcL vs:Nat):Int)):=by
 refine z0p rfl ?_
 have sq:y5L (z5d vs)=some (vs.map .int):=rfl
 simp! only[z1O,sq]
 refine z0z (I:=fun s=>∃o2,s=[some (.sh (z5d vs)),some (.sh (.int ((gcL vs:Nat):Int))),o2]) (z3i (enc:=D.int) (xs:=vs) (fun pre s=>∃o2,s=[some (.sh (z5d vs)),some (.sh (.int ((gcL pre:Nat):Int))),o2]) ⟨_,rfl⟩ ?_ fun s z=>⟨s,rfl,z⟩) ?_
 ·rintro pre v post e s ⟨o2,rfl⟩
  have ab:absF [.int v]=some (.int ((v.natAbs:Nat):Int)):=by
   show some (D.int (if v<0 then -v else v))=_
   congr 2
   split <;> omega
  simp! only[ab,two_eq (a:=gcL pre) (h v (by rw[e];simp)),y3I,z0c]
  exact⟨_,rfl⟩
 ·rintro s ⟨o2,rfl⟩
  simp! only[z0c]
theorem x2V{vs:List Int}:∀v∈vs,gcL vs∣v.natAbs:=by
 have h:∀(r vs:List Int),vs=r.reverse->∀v∈vs,gcL vs∣v.natAbs:=by
  intro r
  induction r with
  |nil=>rintro vs rfl v hv;cases hv
  |cons a r ih=>
   rintro vs rfl v hv
   rw[cg]at hv ⊢
   rw[y3I]
   rcases ar.mp hv with hv | hv
   ·exact Nat.dvd_trans (Nat.gcd_dvd_left _ _) (ih _ rfl v hv)
   ·rw[aq.mp hv]
    exact Nat.gcd_dvd_right _ _
 exact h vs.reverse vs (bW vs).symm
theorem y2C{α:Type}{ea eb:α->D}{i j:Nat}{b:SS->Option Out}{QO:Out->Prop}{xs:List α}(I:List α->SS->Prop)(hs:∀pre x post,xs=pre++x::post->∀δ,I pre δ->hol (b ((δ.set i (some (.sh (ea x)))).set j (some (.sh (eb x))))) fun o=>match o with | .nx δ'=>I (pre++[x]) δ' | .ct δ'=>I (pre++[x]) δ' | .bk δ'=>QO (.nx δ') | .rt d=>QO (.rt d) | .rb d δ'=>QO (.rb d δ') | .ex c δ'=>QO (.ex c δ'))(he:∀δ,I xs δ->QO (.nx δ)):
  ∀{post pre:List α} {s:SS},xs=pre++post->I pre s->hol (z5p i j b (post.map fun z=>.tup [ea z,eb z]) s) QO
 |[],pre,s,e,h=>⟨_,rfl,he s (by rw[e,aL];exact h)⟩
 |x::post,pre,s,e,h=>by
  obtain⟨o,eo,q⟩:=hs pre x post e s h
  rw[ay]
  unfold z5p
  show hol ((b ((s.set i (some (.sh (ea x)))).set j (some (.sh (eb x))))).bind _) QO
  rw[eo]
  have e3:xs=(pre++[x])++post:=by rw[e];simp
  cases o with
  |nx s1=>exact y2C I hs he e3 q
  |ct s1=>exact y2C I hs he e3 q
  |bk s1=>exact⟨_,rfl,q⟩
  |rt d=>exact⟨_,rfl,q⟩
  |rb d s1=>exact⟨_,rfl,q⟩
  |ex c s1=>exact⟨_,rfl,q⟩
theorem zip_v{v:Nat->Int}:∀{S:List Nat},y5Q (S.map nD) ((S.map v).map .int)=S.map fun t=>.tup [nD t,.int (v t)]
 |[]=>rfl
 |t::r=>by
  show D.tup [nD t,.int (v t)]::y5Q (r.map nD) ((r.map v).map .int)=_
  rw[zip_v]
  rfl
def z2a(m:Nat)(S:List Nat)(f:Nat->Int):List Int:=(ad m).map fun t=>if S.contains t=true then f t else 0
theorem z1Y{m:Nat}{S:List Nat}{f:Nat->Int}:(z2a m S f).length=m:=by simp[z2a]
theorem z7r{m:Nat}{S:List Nat}{f:Nat->Int}{t:Nat}(h:t<m):(z2a m S f).getD t 0=if S.contains t=true then f t else 0:=by
 unfold z2a
 simp[aZ,ac,h]
theorem z7e{m:Nat}{S:List Nat}{f:Nat->Int}{t:Nat}(h:t<(z2a m S f).length):(z2a m S f)[t]=if S.contains t=true then f t else 0:=by
 have e:=z7r (m:=m) (S:=S) (f:=f) (t:=t) (by rw[z1Y]at h;exact h)
 rw[aH,ac h]at e
 exact e
theorem y4Q{m:Nat}{S:List Nat}{f:Nat->Int}{t:Nat}:(z2a m S f).set t (f t)=z2a m (S++[t]) f:=by
 apply bv
 ·rw[dF,z1Y,z1Y]
 ·intro i h1 h2
  rw[List.getElem_set,z7e h2]
  by_cases h:t=i
  ·subst h
   rw[if_pos rfl,if_pos (by simp)]
  ·rw[if_neg h,z7e]
   have e:(S++[t]).contains i=S.contains i:=by
    simp
    exact fun z=>absurd z.symm h
   rw[e]
theorem y5c{m:Nat}{f:Nat->Int}:z2a m [] f=am m 0:=by
 apply bv
 ·rw[z1Y,cV]
 ·intro i h1 h2
  rw[z7e,List.getElem_replicate]
  rfl
theorem st_intW{o:List Int}{k:Nat}{x:Int}(h:k<o.length):st0V (some (z5d o)) (some (.int (k:Int))) (some (.int x))=some (z5d (o.set k x)):=by
 show(ixN (o.map D.int).length (k:Int)).map (fun j=>D.lst ((o.map D.int).set j (.int x)))=_
 rw[ixN_of (by simpa using h),b7,←List.map_set]
 rfl
def dvS(T:List (List Bool))(m:Nat)(S:List Nat):Int:=if vt (sk2 T m) S (S.getD 0 0)<0 then -((gcL (S.map (vt (sk2 T m) S)):Nat):Int)else((gcL (S.map (vt (sk2 T m) S)):Nat):Int)
def wtS(T:List (List Bool))(m:Nat)(S:List Nat):List Int:=z2a m S fun t=>(vt (sk2 T m) S t).fdiv (dvS T m S)
structure Od(m:Nat)(S:List Nat):Prop where
 nd:S.Nodup
 lt:∀x∈S,x<m
 odd:S.length % 2=1
theorem Od.half{m:Nat}{S:List Nat}(O:Od m S)(hm:m≤8):∃c,S.length=2*c+1∧c≤3:=⟨S.length / 2,by have:=O.odd;omega,by have:=y6I O.nd O.lt;have:=O.odd;omega⟩
theorem Od.v{T:List (List Bool)}{m:Nat}(F:Full m T)(hm:m≤8){S:List Nat}(O:Od m S){t:Nat}(ht:t∈S):vt (sk2 T m) S t % 2=1∧(vt (sk2 T m) S t).natAbs≤15:=by
 obtain⟨c,h1,h2⟩:=O.half hm
 exact vt_of F O.nd O.lt h1 h2 ht
theorem Od.first{m:Nat}{S:List Nat}(O:Od m S):S.getD 0 0∈S:=by
 have h:0<S.length:=by have:=O.odd;omega
 rw[aH,ac h]
 exact bL h
theorem Od.gc{T:List (List Bool)}{m:Nat}(F:Full m T)(hm:m≤8){S:List Nat}(O:Od m S):0<gcL (S.map (vt (sk2 T m) S))∧gcL (S.map (vt (sk2 T m) S))≤15:=by
 have hd:=x2V (vs:=S.map (vt (sk2 T m) S)) _ (aO.mpr ⟨_,O.first,rfl⟩)
 have hv:=O.v F hm O.first
 have hp:0<(vt (sk2 T m) S (S.getD 0 0)).natAbs:=by omega
 exact⟨Nat.pos_of_dvd_of_pos hd hp,aF (Nat.le_of_dvd hp hd) hv.2⟩
theorem wton_eq{T:List (List Bool)}{m:Nat}(F:Full m T)(hm:m≤8){S:List Nat}(O:Od m S):z2o [z0F T,thD S]=some (z5d (wtS T m S)):=by
 refine z0p rfl ?_
 obtain⟨c,hl,hc⟩:=O.half hm
 have pt:=y6A F.sq (th:=S) (by omega) O.lt
 have ke:=y7j (z6G (th:=S) (f:=at2 T)) hl hc
 rw[hl]at ke
 have kp:=x1T F O.nd O.lt hl hc
 rw[hl]at kp
 rw[kp]at ke
 obtain⟨v,hv⟩:∃v,v=vt (sk2 T m) S:=⟨_,rfl⟩
 have bd:∀t∈S,(v t).natAbs≤15:=fun t ht=>by rw[hv];exact(O.v F hm ht).2
 have gp:=O.gc F hm
 have cm:=y8a (vs:=S.map v) fun x hx=>by
  obtain⟨t,ht,rfl⟩:=aO.mp hx
  have:=bd t ht
  omega
 have i0:ixD (z5d (S.map v)) (.int 0)=some (.int (v (S.getD 0 0))):=by
  have:=ix_in (ws:=S.map v) (k:=0) (by rw[ah];omega)
  have e:(S.map v).getD 0 0=v (S.getD 0 0):=by
   have h0:0<S.length:=by omega
   simp[aZ,ac h0]
  rw[e]at this
  exact this
 obtain⟨g,hg⟩:∃g,g=gcL (S.map v):=⟨_,rfl⟩
 rw[←hv]at ke gp
 rw[←hg]at cm gp
 have hdv:dvS T m S=if v (S.getD 0 0)<0 then -((g:Nat):Int)else((g:Nat):Int):=by unfold dvS;rw[←hv,←hg]
 obtain⟨d,hd⟩:∃d,d=dvS T m S:=⟨_,rfl⟩
 rw[←hd]at hdv
 have rp:repO (some (.lst [.int 0])) (some (.int (m:Int)))=some ((am m (0:Int)).map .int):=by rw[eo_repN (by omega),List.map_replicate]
 have hw:wtS T m S=z2a m S fun t=>(v t).fdiv d:=by unfold wtS;rw[←hv,←hd]
 rw[hw]
 simp! only[z3C,pt,ke,cm,i0]
 refine z0z (I:=fun s=>s=[some (.sh (z0F T)),some (.sh (thD S)),some (.sh (z5d (S.map v))),some (.sh (.int d)),none,none,none]) ?_ ?_
 ·by_cases h:v (S.getD 0 0)<0
  ·rw[decide_eq_true h]
   simp! only[z0c]
   refine⟨_,rfl,?_⟩
   rw[hdv,if_pos h]
  ·rw[decide_eq_false h]
   simp! only[z0c]
   refine⟨_,rfl,?_⟩
   rw[hdv,if_neg h]
 ·rintro s rfl
  have fl:z6L (some ((am m (0:Int)).map D.int))=some ((am m (0:Int)).map D.int):=z1R (z2X _)
  have zp:zpO (some (thD S)) (some (z5d (S.map v)))=some (S.map fun t=>.tup [nD t,.int (v t)]):=by
   show some (y5Q (S.map nD) ((S.map v).map .int))=_
   rw[zip_v]
  have li:D.lst ((am m (0:Int)).map .int)=z5d (z2a m [] fun t=>(v t).fdiv d):=by rw[y5c];rfl
  simp! only[z1Z,F.sq.1,rp,fl,li,ev_zip,zp]
  refine z0z (I:=fun s=>∃o5 o6,s=[some (.sh (z0F T)),some (.sh (thD S)),some (.sh (z5d (S.map v))),some (.sh (.int d)),some (.ow (z5d (z2a m S fun t=>(v t).fdiv d))),o5,o6]) ?_ ?_
  ·refine y2C (ea:=nD) (eb:=fun t=>.int (v t)) (fun pre s=>∃o5 o6,s=[some (.sh (z0F T)),some (.sh (thD S)),some (.sh (z5d (S.map v))),some (.sh (.int d)),some (.ow (z5d (z2a m pre fun t=>(v t).fdiv d))),o5,o6]) ?_ (fun s z=>⟨s,rfl,z⟩) (pre:=[]) rfl ⟨_,_,rfl⟩
   rintro pre t post e s ⟨o5,o6,rfl⟩
   have ht:t∈S:=by rw[←cB S,e];simp
   have dn:divN (.int (v t)) (.int d)=some (.int ((v t).fdiv d)):=by
    refine if_pos ⟨?_,?_⟩
    ·rw[hdv];split <;> omega
    ·rw[hdv];split <;> omega
   simp! only[nD,dn,st_intW (show t<(z2a m pre fun t=>(v t).fdiv d).length by rw[z1Y];exact O.lt t ht),y4Q (f:=fun t=>(v t).fdiv d),z0c]
   exact⟨_,_,rfl⟩
  ·rintro s ⟨o5,o6,rfl⟩
   simp! only[z0c]
theorem y2j{ns:List Int}:∀{k i:Nat},i≤k->ns.getD (bst ns k) 0≤ns.getD i 0
 |0,i,h=>by
  have:i=0:=by omega
  subst this
  exact cf _
 |k+1,i,h=>by
  unfold bst
  by_cases hc:ns.getD (k+1) 0<ns.getD (bst ns k) 0
  ·rw[if_pos (decide_eq_true hc)]
   by_cases hi:i=k+1
   ·rw[hi];exact cf _
   ·have:=y2j (ns:=ns) (k:=k) (i:=i) (by omega)
    omega
  ·rw[if_neg (by simpa using hc)]
   by_cases hi:i=k+1
   ·rw[hi];omega
   ·exact y2j (by omega)
theorem x2X{ns:List Int}:∀k,bst ns k≤k
 |0=>aj 0
 |k+1=>by
  unfold bst
  split
  ·exact aj _
  ·have:=x2X (ns:=ns) k;omega
theorem z9R{ns:List Int}:∀{k i:Nat},i≤k->ns.getD i 0≤ns.getD (y5M ns k) 0
 |0,i,h=>by
  have:i=0:=by omega
  subst this
  exact cf _
 |k+1,i,h=>by
  unfold y5M
  by_cases hc:ns.getD (k+1) 0>ns.getD (y5M ns k) 0
  ·rw[if_pos (decide_eq_true hc)]
   by_cases hi:i=k+1
   ·rw[hi];exact cf _
   ·have:=z9R (ns:=ns) (k:=k) (i:=i) (by omega)
    omega
  ·rw[if_neg (by simpa using hc)]
   by_cases hi:i=k+1
   ·rw[hi];omega
   ·exact z9R (by omega)
theorem y8o{ns:List Int}:∀k,y5M ns k≤k
 |0=>aj 0
 |k+1=>by
  unfold y5M
  split
  ·exact aj _
  ·have:=y8o (ns:=ns) k;omega
theorem y9I{ns:List Int}{k:Nat}(h:k<ns.length):ns.getD k 0∈ns:=by
 rw[aH,ac h]
 exact bL h
theorem mn_mem{ns:List Int}(h:ns≠[]):mnI ns∈ns∧∀x∈ns,mnI ns≤x:=by
 have hp:=bZ.mpr h
 refine⟨y9I (by have:=x2X (ns:=ns) (ns.length - 1);omega),fun x hx=>?_⟩
 obtain⟨i,hi,rfl⟩:=cY.mp hx
 have h1:=y2j (ns:=ns) (k:=ns.length - 1) (i:=i) (by omega)
 have e:ns.getD i 0=ns[i]:=by rw[aH,ac hi];rfl
 unfold mnI
 omega
theorem mx_mem{ns:List Int}(h:ns≠[]):mxI ns∈ns∧∀x∈ns,x≤mxI ns:=by
 have hp:=bZ.mpr h
 refine⟨y9I (by have:=y8o (ns:=ns) (ns.length - 1);omega),fun x hx=>?_⟩
 obtain⟨i,hi,rfl⟩:=cY.mp hx
 have h1:=z9R (ns:=ns) (k:=ns.length - 1) (i:=i) (by omega)
 have e:ns.getD i 0=ns[i]:=by rw[aH,ac hi];rfl
 unfold mxI
 omega
def evA(T:List (List Bool))(m:Nat)(ws:List Int)(t:Nat):Bool:=if 0<ws.getD t 0 then decide (scr T ws m t=0)else decide (scr T ws m t<0)
def evB(T:List (List Bool))(m:Nat)(ws:List Int):Bool:=!(decide (mnI ws<0)||decide (mxI ws=0))&&(ad m).all fun t=>evA T m ws t
theorem evat_eq{m:Nat}{T:List (List Bool)}(sq:Sq m T)(hm:m≤1000){ws:List Int}(hw:ws.length=m){t:Nat}(ht:t<m):z1K [z0F T,z5d ws,.int (t:Int)]=some (.bl (evA T m ws t)):=by
 refine z0p rfl ?_
 have ix:=ix_in (ws:=ws) (k:=t) (by omega)
 have sc:=x1n sq hm hw ht
 unfold evA
 by_cases h:0<ws.getD t 0
 ·have h':decide (ws.getD t 0>0)=true:=decide_eq_true h
  rw[if_pos h]
  simp_all! only[z2i,ix,h',sc,z0c]
 ·have h':decide (ws.getD t 0>0)=false:=decide_eq_false h
  rw[if_neg h]
  simp_all! only[z2i,ix,h',sc,z0c]
theorem y8P{m:Nat}{T:List (List Bool)}(sq:Sq m T)(h0:0<m)(hm:m≤1000){ws:List Int}(hw:ws.length=m):z4N [z0F T,z5d ws]=some (.bl (evB T m ws)):=by
 refine z0p rfl ?_
 have hne:ws≠[]:=fun z=>by rw[z]at hw;simp at hw;omega
 unfold evB
 have cx:z2c (some (z2h 0 m)) (z1J z4C (z0k z1K [z0d 0,z0d 1,z0d 2]) [some (z0F T),some (z5d ws)])=some (((ad m).map fun t=>evA T m ws t).map bD):=by
  rw[z1p,aK]
  exact z5M (fun t=>bD (evA T m ws t)) (by simp;omega) fun t ht=>by simp! only[nD,evat_eq sq hm hw (ai.mp ht),bD]
 simp! only[z6J,min_in hne,max_in hne]
 cases h:(decide (mnI ws<0)||decide (mxI ws=0))with
 |true=>simp_all! only[z0c]
 |false=>
  simp_all! only[z1Z,sq.1,z1u (show m≤1000000 by omega),cx,y7M,z0c]
  rw[ef]
  rfl
theorem y3G{m:Nat}{T:List (List Bool)}{ws:List Int}(h0:0<m)(hw:ws.length=m):evB T m ws=true↔(∀t,t<m->0≤ws.getD t 0)∧(∃t,t<m∧0<ws.getD t 0)∧(∀t,t<m->0<ws.getD t 0->scr T ws m t=0)∧∀t,t<m->¬ 0<ws.getD t 0->scr T ws m t<0:=by
 have hne:ws≠[]:=fun z=>by rw[z]at hw;simp at hw;omega
 obtain⟨n1,n2⟩:=mn_mem hne
 obtain⟨x1,x2⟩:=mx_mem hne
 have hel:∀x,x∈ws↔∃t,t<m∧ws.getD t 0=x:=fun x=>by
  rw[cY]
  constructor
  ·rintro⟨i,hi,rfl⟩
   exact⟨i,by omega,by simp[aZ,ac hi]⟩
  ·rintro⟨t,ht,rfl⟩
   exact⟨t,by omega,by simp[aZ,ac (show t<ws.length by omega)]⟩
 unfold evB
 rw[aA,cM,Bool.or_eq_false_iff,decide_eq_false_iff_not,decide_eq_false_iff_not,aJ]
 constructor
 ·rintro⟨⟨h1,h2⟩,h3⟩
  have nn:∀t,t<m->0≤ws.getD t 0:=fun t ht=>by
   have:=n2 _ ((hel _).mpr ⟨t,ht,rfl⟩)
   omega
  refine⟨nn,?_,fun t ht hp=>?_,fun t ht hp=>?_⟩
  ·obtain⟨t,ht,e⟩:=(hel _).mp x1
   have:=nn t ht
   exact⟨t,ht,by omega⟩
  ·have:=h3 t (ai.mpr ht)
   unfold evA at this
   rw[if_pos hp]at this
   exact of_decide_eq_true this
  ·have:=h3 t (ai.mpr ht)
   unfold evA at this
   rw[if_neg hp]at this
   exact of_decide_eq_true this
 ·rintro⟨nn,⟨p,hp,hpp⟩,h3,h4⟩
  refine⟨⟨?_,?_⟩,fun t ht=>?_⟩
  ·obtain⟨t,ht,e⟩:=(hel _).mp n1
   have:=nn t ht
   omega
  ·have:=x2 _ ((hel _).mpr ⟨p,hp,rfl⟩)
   omega
  ·have ht:=ai.mp ht
   unfold evA
   by_cases h:0<ws.getD t 0
   ·rw[if_pos h]
    exact decide_eq_true (h3 t ht h)
   ·rw[if_neg h]
    exact decide_eq_true (h4 t ht h)
def pkL(L:List Nat):List (List Nat):=L.foldl (fun P t=>P++P.map (· ++ [t])) [[]]
theorem z8A{L:List Nat}{t:Nat}:pkL (L++[t])=pkL L++(pkL L).map (· ++ [t]):=by
 unfold pkL
 rw[List.foldl_append]
 rfl
theorem x3c:∀(r:List Nat),(pkL r.reverse).length=2 ^ r.length
 |[]=>rfl
 |t::r=>by
  rw[cg,z8A,aC,ah,x3c r,aX,Nat.pow_succ]
  omega
theorem y3K:∀(r:List Nat),∀S∈pkL r.reverse,S.Sublist r.reverse∧S.length≤r.length
 |[],S,h=>by
  rw[aq.mp h]
  exact⟨.slnil,aj _⟩
 |t::r,S,h=>by
  rw[cg,z8A,ar]at h
  rw[cg]
  rcases h with h | h
  ·obtain⟨h1,h2⟩:=y3K r S h
   exact⟨h1.trans (List.sublist_append_left _ _),by rw[aX];omega⟩
  ·obtain⟨S',h',rfl⟩:=aO.mp h
   obtain⟨h1,h2⟩:=y3K r S' h'
   exact⟨h1.append (List.Sublist.refl _),by rw[aC];show S'.length+1≤r.length+1;omega⟩
theorem x3i{p:Nat->Bool}:∀(r:List Nat),r.reverse.filter p∈pkL r.reverse
 |[]=>af
 |t::r=>by
  rw[cg,z8A,bP,ar]
  have ih:=x3i (p:=p) r
  cases h:p t with
  |true=>
   right
   have e:[t].filter p=[t]:=by simp[h]
   rw[e]
   exact aO.mpr ⟨_,ih,rfl⟩
  |false=>
   left
   have e:[t].filter p=[]:=by simp[h]
   rw[e,aL]
   exact ih
def opB(S:List Nat):Bool:=decide (((S.length:Int)) % 2=1)
theorem x1a{L:List Nat}(hl:L.length≤8):z2Z [thD L]=some (.lst (((pkL L).filter opB).map thD)):=by
 refine z0p rfl ?_
 have hlen:∀pre post:List Nat,L=pre++post->(pkL pre).length≤256∧∀S∈pkL pre,S.length≤8:=fun pre post e=>by
  have h1:=x3c pre.reverse
  have h2:=y3K pre.reverse
  rw[bW,List.length_reverse]at h1 h2
  have h3:pre.length≤8:=by rw[e,aC]at hl;omega
  refine⟨?_,fun S hS=>by have:=(h2 S hS).2;omega⟩
  rw[h1]
  exact eL (n:=2) (by omega) h3
 have sqp:∀P:List (List Nat),y5L (.lst (P.map thD))=some (P.map thD):=fun _=>rfl
 have fn:z6L (some [])=some []:=rfl
 have st:(D.lst [D.lst []]) = .lst ((pkL []).map thD):=rfl
 simp! only[z4u,fn,st,z4M]
 refine z0z (I:=fun s=>∃o2,s=[some (.sh (thD L)),some (.sh (.lst ((pkL L).map thD))),o2]) (z3i (enc:=nD) (xs:=L) (fun pre s=>∃o2,s=[some (.sh (thD L)),some (.sh (.lst ((pkL pre).map thD))),o2]) ⟨_,rfl⟩ ?_ fun s z=>⟨s,rfl,z⟩) ?_
 ·rintro pre t post e s ⟨o2,rfl⟩
  obtain⟨b1,b2⟩:=hlen pre (t::post) e
  have cx:z2c (some ((pkL pre).map thD)) (z1J z4C (z0B (x0i (z0d 3) (mkL (z0m [z0d 2])))) [some (thD L),some (.lst ((pkL pre).map thD)),some (nD t)])=some (((pkL pre).map (· ++ [t])).map thD):=by
   rw[aK]
   refine z5M (enc:=thD) (xs:=pkL pre) (fun S=>thD (S++[t])) (by omega) fun S hS=>?_
   have c1:x0I (some (thD S)) (some (.lst [nD t]))=some ((S++[t]).map nD):=x2I (a:=S) (b:=[t]) (by have:=b2 S hS;show S.length+1≤_;omega)
   simp! only[c1,z4r,y1H]
  have c2:x0I (some (.lst ((pkL pre).map thD))) (some (.lst (((pkL pre).map (· ++ [t])).map thD)))=some ((pkL (pre++[t])).map thD):=by
   rw[z8A,y3Q (by simp only[ah];omega),aD]
  simp! only[sqp,cx,c2,z0c]
  exact⟨_,rfl⟩
 ·rintro s ⟨o2,rfl⟩
  obtain⟨b1,b2⟩:=hlen L [] (by simp)
  have cx:∀o:Option D,z2c (some ((pkL L).map thD)) (z1J (z0Q (d2 eqD (d2 z4y (z0k z2g [z0d 3]) (dC (.int 2))) (dC (.int 1)))) (z0d 3) [some (thD L),some (.lst ((pkL L).map thD)),o])=some (((pkL L).filter opB).map thD):=fun o=>by
   refine z8N (enc:=thD) (xs:=pkL L) opB thD (by omega) (fun S hS=>?_) fun S hS _=>by simp! only[]
   have md:z4y (.int (S.length:Int)) (.int 2)=some (.int ((S.length:Int) % 2)):=z2D (by omega)
   simp! only[y0Z,md]
   rfl
  simp! only[sqp,cx,z0c]
theorem fd_of{v d:Int}(hd:d≠0)(h:d∣v):v=d*v.fdiv d:=by
 obtain⟨k,rfl⟩:=h
 rw[Int.mul_fdiv_cancel_left _ hd]
section
variable{T:List (List Bool)}{m:Nat}{S:List Nat}
theorem Od.d(F:Full m T)(hm:m≤8)(O:Od m S):dvS T m S≠0∧∀t∈S,vt (sk2 T m) S t=dvS T m S*(wtS T m S).getD t 0:=by
 have gp:=O.gc F hm
 have hne:dvS T m S≠0:=by unfold dvS;split <;> omega
 refine⟨hne,fun t ht=>?_⟩
 have hdv:dvS T m S∣vt (sk2 T m) S t:=by
  have h1:=x2V (vs:=S.map (vt (sk2 T m) S)) _ (aO.mpr ⟨t,ht,rfl⟩)
  have h2:((gcL (S.map (vt (sk2 T m) S)):Nat):Int)∣vt (sk2 T m) S t:=Int.ofNat_dvd_left.mpr h1
  unfold dvS
  split
  ·exact Int.neg_dvd.mpr h2
  ·exact h2
 unfold wtS
 rw[z7r (O.lt t ht),if_pos (aU.mpr ht)]
 exact fd_of hne hdv
theorem y6o{t:Nat}(ht:t<m)(hn:t∉S):(wtS T m S).getD t 0=0:=by
 unfold wtS
 rw[z7r ht,if_neg (by rw[aU];exact hn)]
theorem y5U:(wtS T m S).length=m:=by unfold wtS;exact z1Y
theorem x3D(F:Full m T)(hm:m≤8)(O:Od m S){i:Nat}(hi:i<m):dvS T m S*scr T (wtS T m S) m i=z1F S fun t=>sk2 T m i t*vt (sk2 T m) S t:=by
 rw[y2D hi (aj _)]
 have e1:((ad m).map fun j=>sk2 T m i j*(wtS T m S).getD j 0).sum=z1F ((ad m).filter fun t=>S.contains t) fun j=>sk2 T m i j*(wtS T m S).getD j 0:=by
  refine(y1v (L:=ad m) fun t ht hp=>?_).symm
  have hn:t∉S:=fun z=>by rw[aU.mpr z]at hp;cases hp
  rw[y6o (ai.mp ht) hn,Int.mul_zero]
 have pm:((ad m).filter fun t=>S.contains t).Perm S:=(dQ (List.nodup_range.filter _) O.nd).mpr fun t=>by
  rw[ag,ai,aU]
  exact⟨fun h=>h.2,fun h=>⟨O.lt t h,h⟩⟩
 rw[e1,y6d pm,←ls_mul]
 refine z3S fun t ht=>?_
 rw[(O.d F hm).2 t ht]
 ac_rfl
theorem unc_of(F:Full m T){x:Vc}(E:Ev (sk2 T m) m x){t:Nat}(ht:t∈z5c m x):y5u T m t=true:=by
 unfold y5u
 rw[cM,bU]
 intro y hy hc
 have hy:=ai.mp hy
 have htm:=z7c t ht
 have hp:=z6n t ht
 unfold y5r at hc
 rw[aA,aJ]at hc
 obtain⟨c1,c2⟩:=hc
 have hyt:y≠t:=fun z=>by rw[z,F.own t htm]at c1;cases c1
 have h1:=E.eq t htm hp
 have h2:=E.le y hy
 have hs:∀j,j<m->sk2 T m t j≤sk2 T m y j:=fun j hj=>by
  unfold sk2
  rw[if_pos (show t<m∧j<m from⟨htm,hj⟩),if_pos (show y<m∧j<m from⟨hy,hj⟩)]
  cases h3:at2 T t j with
  |true=>
   have h4:=c2 j (ag.mpr ⟨ai.mpr hj,h3⟩)
   have hjt:j≠t:=fun z=>by rw[z,F.own t htm]at h3;cases h3
   have hjy:j≠y:=fun z=>by rw[z,F.own y hy]at h4;cases h4
   have h5:=F.two t htm j hj (Ne.symm hjt)
   have h6:=F.two y hy j hj (Ne.symm hjy)
   rw[h3]at h5
   rw[h4]at h6
   have h5:at2 T j t=false:=by cases z:at2 T j t <;> rw[z]at h5 <;> first | rfl | cases h5
   have h6:at2 T j y=false:=by cases z:at2 T j y <;> rw[z]at h6 <;> first | rfl | cases h6
   rw[h4,h5,h6]
   decide
  |false=>
   by_cases hjt:j=t
   ·subst hjt
    have:=F.two y hy j hj hyt
    rw[c1]at this
    have h6:at2 T j y=false:=by cases z:at2 T j y <;> rw[z]at this <;> first | rfl | cases this
    rw[F.own j hj,c1,h6]
    decide
   ·have h5:=F.two t htm j hj (Ne.symm hjt)
    rw[h3]at h5
    have h5:at2 T j t=true:=by cases z:at2 T j t <;> rw[z]at h5 <;> first | rfl | cases h5
    rw[h5]
    cases at2 T y j <;> cases at2 T j y <;> decide
 have ht1:sk2 T m t t=0:=by
  unfold sk2
  rw[if_pos (show t<m∧t<m from⟨htm,htm⟩),F.own t htm]
  rfl
 have hy1:sk2 T m y t=1:=by
  unfold sk2
  have:=F.two y hy t htm hyt
  rw[c1]at this
  have h6:at2 T t y=false:=by cases z:at2 T t y <;> rw[z]at this <;> first | rfl | cases this
  rw[if_pos (show y<m∧t<m from⟨hy,htm⟩),c1,h6]
  rfl
 have h7:=z7V (n:=m) (y:=x) (a:=fun j=>sk2 T m y j + -1*sk2 T m t j) fun j hj=>br (E.nn j) (by have:=hs j hj;omega)
 rw[z9j (u:=sk2 T m y) (v:=fun j=>-1*sk2 T m t j),z4d (u:=sk2 T m t),h1]at h7
 have h8:=h7.2 t htm
 rw[ht1,hy1]at h8
 omega
theorem y6u(F:Full m T)(h0:0<m)(hm:m≤8):∃S∈(pkL (z9Z T m)).filter opB,evB T m (wtS T m S)=true:=by
 obtain⟨x,a1,a2,a3,a4⟩:=y6P (s:=sk2 T m) z6e h0
 have E:Ev (sk2 T m) m x:=⟨a1,a2,a3,a4⟩
 have P:=odd_pf F hm
 have od:=y8z P E
 obtain⟨ε,he,hs,ho⟩:=ev_ker P E
 have O:Od m (z5c m x):=⟨z8Z,z7c,od⟩
 refine⟨z5c m x,ag.mpr ⟨?_,decide_eq_true (by omega)⟩,?_⟩
 ·have e:z5c m x=(z9Z T m).filter fun i=>decide (0<x i):=by
   unfold z5c z9Z
   rw[List.filter_filter]
   refine bB fun i hi=>?_
   by_cases h:0<x i
   ·rw[decide_eq_true h,unc_of F E (ag.mpr ⟨hi,decide_eq_true h⟩)]
    rfl
   ·rw[decide_eq_false h]
    rfl
  rw[e]
  have:=x3i (p:=fun i=>decide (0<x i)) (z9Z T m).reverse
  rwa [bW]at this
 ·obtain⟨S,hS⟩:∃S,S=z5c m x:=⟨_,rfl⟩
  rw[←hS]at hs ho O ⊢
  have gp:=O.gc F hm
  have hf:=hs _ O.first
  have hd:dvS T m S=ε*((gcL (S.map (vt (sk2 T m) S)):Nat):Int):=by
   unfold dvS
   rcases he with rfl | rfl
   ·rw[if_neg (by omega)];omega
   ·rw[if_pos (by omega)];omega
  obtain⟨g,hg⟩:∃g,g=gcL (S.map (vt (sk2 T m) S)):=⟨_,rfl⟩
  rw[←hg]at gp hd
  have ee:ε*ε=1:=by rcases he with rfl | rfl <;> rfl
  have hw:∀t∈S,0<(wtS T m S).getD t 0:=fun t ht=>by
   have h1:=hs t ht
   rw[(O.d F hm).2 t ht,hd]at h1
   have h2:ε*(ε*(g:Int)*(wtS T m S).getD t 0)=(wtS T m S).getD t 0*(g:Int):=by grind
   rw[h2]at h1
   exact eh h1 (by omega)
  refine(y3G h0 y5U).mpr ⟨fun t ht=>?_,⟨_,O.lt _ O.first,hw _ O.first⟩,fun t ht hp=>?_,fun t ht hp=>?_⟩
  ·by_cases h:t∈S
   ·have:=hw t h;omega
   ·rw[y6o ht h];omega
  ·have hin:t∈S:=by
    by_cases h:t∈S
    ·exact h
    ·rw[y6o ht h]at hp;omega
   have h1:=x3D F hm O ht
   rw[←y9r O.nd,y6X z6e hin]at h1
   exact(dO.mp h1).resolve_left (O.d F hm).1
  ·have hin:t∉S:=fun h=>hp (hw t h)
   have h1:=ho t ht hin
   rw[←x3D F hm O ht,hd]at h1
   have h2:ε*(ε*(g:Int)*scr T (wtS T m S) m t)=(g:Int)*scr T (wtS T m S) m t:=by grind
   rw[h2]at h1
   by_cases h:scr T (wtS T m S) m t<0
   ·exact h
   ·have:=br (show 0≤(g:Int) by omega) (show 0≤scr T (wtS T m S) m t by omega)
    omega
theorem pick_od{S:List Nat}(h:S∈(pkL (z9Z T m)).filter opB):Od m S∧∀t∈S,y5u T m t=true:=by
 obtain⟨h1,h2⟩:=ag.mp h
 have h3:=y3K (z9Z T m).reverse S (by rw[bW];exact h1)
 rw[bW]at h3
 have h2:((S.length:Int)) % 2=1:=of_decide_eq_true h2
 refine⟨⟨(List.nodup_range.filter _).sublist h3.1,fun t ht=>ai.mp (ag.mp (h3.1.subset ht)).1,by omega⟩,fun t ht=>(ag.mp (h3.1.subset ht)).2⟩
theorem y1W(F:Full m T)(h0:0<m)(hm:m≤8):hol (z2C [z0F T]) fun d=>∃S,Od m S∧(∀t∈S,y5u T m t=true)∧evB T m (wtS T m S)=true∧d=z5d (wtS T m S):=by
 refine z9V rfl ?_
 have ul:(z9Z T m).length≤8:=aF (aW ..) (by simpa using hm)
 have sqp:∀P:List (List Nat),y5L (.lst (P.map thD))=some (P.map thD):=fun _=>rfl
 simp! only[z5q,z5O F.sq (show m≤1000 by omega),x1a ul,sqp]
 refine z3i (enc:=thD) (xs:=(pkL (z9Z T m)).filter opB) (fun pre s=>(∃o1 o2,s=[some (.sh (z0F T)),o1,o2])∧∀S∈pre,evB T m (wtS T m S)=false) ⟨⟨_,_,rfl⟩,fun _ h=>nomatch h⟩ ?_ ?_
 ·rintro pre S post e s ⟨⟨o1,o2,rfl⟩,hn⟩
  have hS:S∈(pkL (z9Z T m)).filter opB:=by rw[e];simp
  obtain⟨O,hu⟩:=pick_od hS
  simp! only[wton_eq F hm O,y8P F.sq h0 (show m≤1000 by omega) (y5U (T:=T) (S:=S))]
  cases hv:evB T m (wtS T m S)with
  |true=>
   simp! only[z0c]
   exact⟨_,rfl,S,O,hu,hv,rfl⟩
  |false=>
   simp! only[z0c]
   refine⟨⟨_,_,rfl⟩,fun S' h=>?_⟩
   rcases ar.mp h with h | h
   ·exact hn S' h
   ·rw[aq.mp h]
    exact hv
 ·rintro s ⟨_,hn⟩
  obtain⟨S,h1,h2⟩:=y6u F h0 hm
  rw[hn S h1]at h2
  cases h2
end
theorem z2N{T:List (List Bool)}{ws:List Int}{m i:Nat}(hi:i<m):scr T ws m i=z0v m (fun j=>ws.getD j 0) (sk2 T m i):=by
 rw[y2D hi (aj _),y9i]
 unfold z1F
 congr 1
 exact bh fun j _=>cH _ _
theorem x0J{s:Nat->Nat->Int}(sk:∀a b,s a b = -s b a){m:Nat}{x w:Vc}:z0v m x (fun i=>z0v m w (s i)) = -z0v m w (fun i=>z0v m x (s i)):=by
 rw[z6h (x:=x) (z:=w) (a:=s),←z5B]
 refine z2J (fun _ _=>rfl) fun j _=>?_
 rw[←z5B]
 exact z2J (fun _ _=>rfl) fun i _=>sk i j
section
variable{T:List (List Bool)}{m:Nat}{xs ws:List Int}
theorem ev_Ev(h0:0<m)(hx:xs.length=m)(he:evB T m xs=true):Ev (sk2 T m) m (fun t=>xs.getD t 0)∧∀i,i<m->¬ 0<xs.getD i 0->z0v m (fun t=>xs.getD t 0) (sk2 T m i)<0:=by
 obtain⟨e1,e2,e3,e4⟩:=(y3G h0 hx).mp he
 refine⟨⟨fun i=>?_,e2,fun i hi=>?_,fun i hi hp=>?_⟩,fun i hi hp=>?_⟩
 ·by_cases h:i<m
  ·exact e1 i h
  ·have:xs.getD i 0=0:=by simp[aZ,show ¬ i<xs.length by omega]
   rw[this]
   exact cf 0
 ·rw[←z2N hi]
  by_cases h:0<xs.getD i 0
  ·rw[e3 i hi h];exact cf 0
  ·have:=e4 i hi h;omega
 ·rw[←z2N hi];exact e3 i hi hp
 ·rw[←z2N hi];exact e4 i hi hp
theorem ev_in(h0:0<m)(hx:xs.length=m)(hw:ws.length=m)(he:evB T m xs=true)(hf:evB T m ws=true):∀i,i<m->0<ws.getD i 0->0<xs.getD i 0:=by
 obtain⟨X,x4⟩:=ev_Ev h0 hx he
 obtain⟨W,w4⟩:=ev_Ev h0 hw hf
 have t:=x0J (s:=sk2 T m) z6e (m:=m) (x:=fun t=>xs.getD t 0) (w:=fun t=>ws.getD t 0)
 have n1:=z7V (n:=m) (y:=fun t=>xs.getD t 0) (a:=fun i=>-z0v m (fun t=>ws.getD t 0) (sk2 T m i)) fun i hi=>br (X.nn i) (by have:=W.le i hi;omega)
 have n2:=z7V (n:=m) (y:=fun t=>ws.getD t 0) (a:=fun i=>-z0v m (fun t=>xs.getD t 0) (sk2 T m i)) fun i hi=>br (W.nn i) (by have:=X.le i hi;omega)
 rw[z5B]at n1 n2
 intro i hi hp
 by_cases h:0<xs.getD i 0
 ·exact h
 ·have h1:=x4 i hi h
  have h2:=n2.2 i hi
  have h3:=cA hp (show 0 < -z0v m (fun t=>xs.getD t 0) (sk2 T m i) by omega)
  have n10:=n1.1
  have n20:=n2.1
  have h2:ws.getD i 0 * -z0v m (fun t=>xs.getD t 0) (sk2 T m i)≤-z0v m (fun t=>ws.getD t 0) (fun i=>z0v m (fun t=>xs.getD t 0) (sk2 T m i)):=h2
  omega
end
theorem y6p{xs:List D}{d:D}:atI (xs++[d]) (-1)=some d:=by
 unfold atI ixN
 rw[if_neg (by omega),if_pos (by simp;omega),av]
 have:((-1:Int)+((xs++[d]).length:Int)).toNat=xs.length:=by simp;omega
 rw[this]
 simp
theorem x1y{bs:List (Int×List Int)}{b:Int×List Int}:ixD (z3Z (bs++[b])) (.int (-1))=some (z1H b):=by
 show atI ((bs++[b]).map z1H) (-1)=_
 rw[aD]
 exact y6p
theorem vol_app{bs:List (Int×List Int)}{b:Int×List Int}:z5m (bs++[b])=z5m bs+b.1:=by
 unfold z5m
 simp
theorem y3P{b:Int×List Int}:x1M (some [z1H b])=some [z1H b]:=y4b (z5b [b])
structure Vts(m:Nat)(bs:List (Int×List Int)):Prop where
 good:∀b∈bs,Good2 m b
 odd:z5m bs % 2=1
 pos:∀b∈bs,0≤b.1
theorem y7P{m:Nat}(h0:0<m)(hm:m≤8)(ns:List Int)(hns:ns.length≤63):hol (z2p [.scr ns,.int (m:Int)]) fun d=>∃bs,d=z3Z bs∧Vts m bs∧bs.length≤64:=by
 refine z9V rfl ?_
 obtain⟨cs,ec,hcl⟩:=x1X ns (some 1) (some 40)
 have p40:x1w (.int 10) (.int 40)=some (.int (10 ^ 40)):=y2M 40 (by omega)
 have p30:x1w (.int 10) (.int 30)=some (.int (10 ^ 30)):=y2M 30 (by omega)
 obtain⟨a40,e40⟩:∃a:Int,a=10 ^ 40:=⟨_,rfl⟩
 obtain⟨a30,e30⟩:∃a:Int,a=10 ^ 30:=⟨_,rfl⟩
 have g30:0<a30:=by rw[e30];decide
 have g40:0<a40:=by rw[e40];decide
 rw[←e40]at p40
 rw[←e30]at p30
 have v0:D.lst []=z3Z []:=rfl
 simp! only[z3z,z6q,v0,ec]
 refine z0z (I:=fun s=>∃bs o4 o5,s=[some (.sh (.scr ns)),some (.sh (.int (m:Int))),some (.ow (z3Z bs)),some (.sh (.int (z5m bs))),o4,o5]∧(∀b∈bs,Good2 m b∧0≤b.1)∧bs.length≤63) ?_ ?_
 ·refine z3i (enc:=D.int) (xs:=cs) (fun pre s=>∃bs o4 o5,s=[some (.sh (.scr ns)),some (.sh (.int (m:Int))),some (.ow (z3Z bs)),some (.sh (.int (z5m bs))),o4,o5]∧(∀b∈bs,Good2 m b∧0≤b.1)∧bs.length=pre.length) ⟨[],_,_,rfl,(fun b hb=>nomatch hb),rfl⟩ ?_ ?_
  ·rintro pre c post e s ⟨bs,o4,o5,rfl,hg,hl⟩
   have hpl:pre.length≤63:=by
    have:=congrArg List.length e
    rw[aC]at this
    omega
   obtain⟨r,hr,r0,r1⟩:∃r:Int,z4y (.int c) (.int a40)=some (.int r)∧0≤r∧r<a40:=⟨_,z2D g40,cW _ (by omega),c9 _ g40⟩
   have d7:y5P (.int r) (.int 7)=some (.int (r / 7)):=y0H ⟨by omega,by omega⟩
   have d21:y5P (.int r) (.int 21)=some (.int (r / 21)):=y0H ⟨by omega,by omega⟩
   have m2:z4y (.int r) (.int 2)=some (.int (r % 2)):=z2D (by omega)
   obtain⟨n,hn,n0⟩:∃n:Int,atI [D.int 3,.int a30] (r % 2)=some (.int n)∧0<n:=by
    rcases Int.emod_two_eq r with z | z
    ·rw[z];exact⟨3,y2X,by omega⟩
    ·rw[z];exact⟨a30,y7o,g30⟩
   have mn:z4y (.int (r / 7)) (.int n)=some (.int (r / 7 % n)):=z2D n0
   obtain⟨_,eo,o,rfl,hp⟩:=x1e (m:=m) (by omega) (r / 21)
   obtain⟨b,hb⟩:∃b:Int×List Int,b=(1+r / 7 % n,o):=⟨_,rfl⟩
   have tb:D.tup [.int (1+r / 7 % n),z3g o]=z1H b:=by rw[hb];rfl
   have b0:ixD (z1H b) (.int 0)=some (.int b.1):=y2t
   have ap:=y3E (bs:=bs) (b:=b) (by omega)
   have vl:z5m bs+b.1=z5m (bs++[b]):=vol_app.symm
   obtain⟨bs',hbs⟩:∃bs',bs'=bs++[b]:=⟨_,rfl⟩
   have lb:ixD (z3Z bs') (.int (-1))=some (z1H b):=by rw[hbs];exact x1y
   rw[←hbs]at ap vl
   simp! only[p40,hr,d7,d21,p30,m2,hn,mn,eo,tb,y3P,ap,lb,b0,vl,z0c]
   refine⟨bs',_,_,rfl,fun x hx=>?_,by rw[hbs,aC,aC,hl];rfl⟩
   rw[hbs]at hx
   rcases ar.mp hx with hx | hx
   ·exact hg x hx
   ·rw[aq.mp hx,hb];exact⟨⟨hp⟩,by have:=cW (r / 7) (show n≠0 by omega);show 0≤1+r / 7 % n;omega⟩
  ·rintro s ⟨bs,o4,o5,rfl,hg,hl⟩
   exact⟨_,rfl,bs,_,_,rfl,hg,by omega⟩
 ·rintro s ⟨bs,o4,o5,rfl,hg,hl⟩
  have m2:z4y (.int (z5m bs)) (.int 2)=some (.int (z5m bs % 2)):=z2D (by omega)
  have sm:y0u (some (z2h 0 m))=some (z2h 0 m):=y3F (by rw[z1p];simp;omega)
  have tb:D.tup [.int 1,z3g (z7y m)]=z1H (1,z7y m):=rfl
  have ap:=y3E (bs:=bs) (b:=(1,z7y m)) (by omega)
  simp! only[m2,z1u (show m≤1000000 by omega),sm,y7t,tb,y3P,ap]
  by_cases h:z5m bs % 2=0
  ·rw[decide_eq_true h]
   simp! only[z0c]
   have al:∀b∈bs++[(1,z7y m)],Good2 m b∧0≤b.1:=fun x hx=>by
    rcases ar.mp hx with hx | hx
    ·exact hg x hx
    ·rw[aq.mp hx];exact⟨⟨.refl _⟩,by show(0:Int)≤1;omega⟩
   exact⟨_,rfl,_,rfl,⟨fun x hx=>(al x hx).1,by rw[vol_app];show(z5m bs+1) % 2=1;omega,fun x hx=>(al x hx).2⟩,by simp;omega⟩
  ·rw[decide_eq_false h]
   simp! only[z0c]
   exact⟨_,rfl,_,rfl,⟨fun x hx=>(hg x hx).1,by omega,fun x hx=>(hg x hx).2⟩,by omega⟩
theorem Full.ant{m:Nat}{T:List (List Bool)}(F:Full m T):Ant m T:=⟨F.sq,F.own,fun i hi j hj h=>by
 have hne:i≠j:=fun z=>by
  subst z
  rw[F.own i hi]at h
  cases h
 have:=F.two i hi j hj hne
 rw[h]at this
 cases e:at2 T j i with
 |false=>rfl
 |true=>rw[e]at this;cases this⟩
theorem y8q{m:Nat}{p:Nat->Bool}{k:Nat}(hk:k<m):((ad m).filter p).contains k=p k:=by
 rw[dJ,aU,ag,ai]
 exact⟨fun z=>z.2,fun z=>⟨hk,z⟩⟩
def stdD(P U C:List Nat)(W:List Int)(t:Nat):D:=.tup [.bl (P.contains t),.bl (U.contains t),.bl (C.contains t),.bl (decide (W.getD t 0>0))]
theorem w_at{W:List Int}{t:Nat}(h:t<W.length):ixD (z5d W) (.int (t:Int))=some (.int (W.getD t 0)):=by
 show atI (W.map D.int) (t:Int)=_
 refine z1M ?_
 rw[aB,ac h,aH,ac h]
 rfl
theorem std_imm{P U C:List Nat}{W:List Int}{t:Nat}:y5R (some (stdD P U C W t))=some (stdD P U C W t):=y3C rfl
noncomputable def tpL(T:List (List Bool))(m:Nat):List Nat:=plL (z7U T m) m
def crL(T:List (List Bool))(m:Nat):List Nat:=(ad m).filter (crB T m)
structure Std(T:List (List Bool))(m:Nat)(W:List Int):Prop where
 p:z2H [z0F T]=some (thD (tpL T m))
 u:z1o [z0F T]=some (thD (z9Z T m))
 c:z4Q [z0F T]=some (thD (crL T m))
 w:z2C [z0F T]=some (z5d W)
 len:W.length=m
 ev:evB T m W=true
theorem x2J{m:Nat}{T:List (List Bool)}(F:Full m T)(h0:0<m)(hm:m≤8):∃W,Std T m W:=by
 obtain⟨_,ew,S,O,hu,he,rfl⟩:=y1W F h0 hm
 have hS:=O.first
 exact⟨wtS T m S,y5p F.sq (by omega) h0 (bx (cnt_unc F (O.lt _ hS) (hu _ hS))),z5O F.sq (by omega),y6K F.ant hm,ew,y5U,he⟩
noncomputable def sD'(T:List (List Bool))(m:Nat)(W:List Int)(t:Nat):D:=stdD (tpL T m) (z9Z T m) (crL T m) W t
theorem z7b{m:Nat}{T:List (List Bool)}{W:List Int}(S:Std T m W){t:Nat}(ht:t<m):z1v [z0F T,.int (t:Int)]=some (sD' T m W t):=by
 refine z0p rfl ?_
 have wa:=w_at (W:=W) (t:=t) (by rw[S.len];exact ht)
 have im:=std_imm (P:=tpL T m) (U:=z9Z T m) (C:=crL T m) (W:=W) (t:=t)
 unfold sD'
 unfold stdD at im ⊢
 simp! only[z2V,S.p,S.u,S.c,S.w,x2H,wa,im,z0c]
structure Rse(m:Nat)(T T':List (List Bool))(t:Nat):Prop where
 F:Full m T
 F':Full m T'
 ht:t<m
 same:∀i<m,∀j<m,i≠t->j≠t->at2 T' i j=at2 T i j
 more:∀j<m,at2 T t j=true->at2 T' t j=true
section
variable{m:Nat}{T T':List (List Bool)}{t:Nat}
theorem Rse.lose(R:Rse m T T' t){b:Nat}(hb:b<m)(h:at2 T' b t=true):at2 T b t=true:=by
 have hne:b≠t:=fun z=>by
  subst z
  rw[R.F'.own b hb]at h
  cases h
 cases e:at2 T b t with
 |true=>rfl
 |false=>
  have h1:at2 T t b=true:=by rw[R.F.two t R.ht b hb (Ne.symm hne),e];rfl
  have h2:=R.more b hb h1
  rw[R.F'.two t R.ht b hb (Ne.symm hne),h]at h2
  cases h2
theorem Rse.rch(R:Rse m T T' t){y:Nat}(h:Rch T m t y):y<m->Rch T' m t y:=by
 induction h with
 |here=>exact fun _=>.here
 |step hx hy he ih=>
  rename_i x y
  intro _
  by_cases e1:x=t
  ·subst e1
   exact .step .here hy (R.more _ hy he)
  ·by_cases e2:y=t
   ·rw[e2];exact .here
   ·by_cases hxm:x<m
    ·exact .step (ih hxm) hy (by rw[R.same x hxm y hy e1 e2];exact he)
    ·exfalso
     unfold at2 at he
     have:T.getD x []=[]:=by
      have hl:=R.F.sq.1
      simp[aZ,show ¬ x<T.length by omega]
     rw[this]at he
     cases he
theorem x3C(F:Full m T){a:Nat}(ha:a<m):(tpL T m).contains a=true↔∀y<m,Rch T m a y:=by
 rw[aU]
 unfold tpL
 rw[plL_mem]
 unfold z7U
 rw[aB,cC ha]
 show some (rcL T m a).length=some m↔_
 have e:(rcL T m a).length=m↔∀y<m,y∈rcL T m a:=by
  constructor
  ·intro h y hy
   unfold rcL at h ⊢
   have h2:=List.length_filter_eq_length_iff.mp (h.trans aS.symm)
   exact ag.mpr ⟨ai.mpr hy,h2 y (ai.mpr hy)⟩
  ·intro h
   unfold rcL at h ⊢
   have h2:∀y∈ad m,_:=fun y hy=>(ag.mp (h y (ai.mp hy))).2
   rw[bq.mpr h2,aS]
 constructor
 ·intro h y hy
  exact(rcL_mem.mp (e.mp (Option.some.inj h) y hy)).2
 ·intro h
  exact congrArg some (e.mpr fun y hy=>rcL_mem.mpr ⟨hy,h y hy⟩)
theorem Rse.top(R:Rse m T T' t)(h:(tpL T m).contains t=true):(tpL T' m).contains t=true:=
 (x3C R.F' R.ht).mpr fun y hy=>R.rch ((x3C R.F R.ht).mp h y hy) hy
theorem Rse.unc(R:Rse m T T' t)(h:y5u T m t=true):y5u T' m t=true:=by
 unfold y5u at h ⊢
 rw[cM,bU]at h ⊢
 intro b hb hc
 refine h b hb ?_
 obtain⟨k1,k2⟩:=cov_iff.mp hc
 have hbm:=ai.mp hb
 have hne:b≠t:=fun z=>by
  subst z
  rw[R.F'.own b hbm]at k1
  cases k1
 refine cov_iff.mpr ⟨R.lose hbm k1,fun j hj hz=>?_⟩
 have hjt:j≠t:=fun z=>by
  rw[z,R.F.own t R.ht]at hz
  cases hz
 rw[←R.same b hbm j hj hne hjt]
 exact k2 j hj (R.more j hj hz)
theorem y4j(R:Rse m T T' t):∀{r:List Nat},(∀x∈r,x<m∧x≠t)->chB T r=true->chB T' r=true
 |[],_,_=>rfl
 |a::r,hr,h=>by
  have h:((r.all fun j=>at2 T a j)&&chB T r)=true:=h
  show((r.all fun j=>at2 T' a j)&&chB T' r)=true
  rw[aA]at h ⊢
  have ha:=hr a af
  refine⟨aJ.mpr fun x hx=>?_,y4j R (fun x hx=>hr x (ae _ hx)) h.2⟩
  have hx':=hr x (ae _ hx)
  rw[R.same a ha.1 x hx'.1 ha.2 hx'.2]
  exact aJ.mp h.1 x hx
theorem Rse.cr(R:Rse m T T' t)(h:crB T m t=true):crB T' m t=true:=by
 obtain⟨c,hc,hcr⟩:=bM.mp (show(hdL T t m).any (crP T m)=true from h)
 obtain⟨q1,⟨r,rfl⟩,q3⟩:=hd_ok R.ht (R.F.own t R.ht) (aj m) c hc
 have q1':=ax.mp (show(r.all (fun j=>at2 T t j)&&chB T r)=true from q1)
 have h1:∀x∈r,at2 T t x=true:=aJ.mp q1'.1
 have hr:∀x∈r,x<m∧x≠t:=fun x hx=>⟨q3 x (ae _ hx),fun z=>by
  have:=h1 x hx
  rw[z,R.F.own t R.ht]at this
  cases this⟩
 have ch:chB T' (t::r)=true:=by
  show((r.all fun j=>at2 T' t j)&&chB T' r)=true
  rw[aA]
  exact⟨aJ.mpr fun x hx=>R.more x (hr x hx).1 (h1 x hx),y4j R hr q1'.2⟩
 refine bM.mpr ⟨t::r,x3k R.F'.ant ch q3,bt_nil.mpr fun x hx=>?_⟩
 obtain⟨y,hy,e⟩:=bt_nil.mp hcr x hx
 by_cases hxt:x=t
 ·exact⟨t,af,by rw[hxt];exact R.F'.own t R.ht⟩
 ·refine⟨y,hy,?_⟩
  rcases ao.mp hy with z | z
  ·cases e2:at2 T' x y with
   |false=>rfl
   |true=>
    rw[z]at e2 e
    rw[R.lose hx e2]at e
    cases e
  ·rw[R.same x hx y (hr y z).1 hxt (hr y z).2]
   exact e
theorem x2t{y u v:Vc}:∀{n:Nat},(∀i,i<n->0≤y i)->(∀i,i<n->u i≤v i)->z0v n y u≤z0v n y v
 |0,_,_=>cf _
 |n+1,hy,h=>by
  unfold z0v
  have h1:=x2t (n:=n) (fun i hi=>hy i (by omega)) fun i hi=>h i (by omega)
  have h2:=dI (h n (by omega)) (hy n (by omega))
  omega
theorem y3Y{y u v:Vc}:∀{n:Nat},(∀i,i<n->y i=0∨u i=v i)->z0v n y u=z0v n y v
 |0,_=>rfl
 |n+1,h=>by
  unfold z0v
  rw[y3Y (n:=n) fun i hi=>h i (by omega)]
  rcases h n (by omega)with z | z
  ·rw[z,dl,dl]
  ·rw[z]
theorem Rse.wt(R:Rse m T T' t)(h0:0<m){W W':List Int}(hl:W.length=m)(hl':W'.length=m)(he:evB T m W=true)(he':evB T' m W'=true)(h:0<W.getD t 0):0<W'.getD t 0:=by
 by_cases hc:0<W'.getD t 0
 ·exact hc
 obtain⟨e1,e2,e3,e4⟩:=(y3G h0 hl').mp he'
 have w0:W'.getD t 0=0:=by have:=e1 t R.ht;omega
 have sk:∀i<m,i≠t->∀j<m,j≠t->sk2 T' m i j=sk2 T m i j:=fun i hi hit j hj hjt=>by
  unfold sk2
  rw[R.same i hi j hj hit hjt,R.same j hj i hi hjt hit]
 have s1:∀i<m,i≠t->scr T W' m i=scr T' W' m i:=fun i hi hit=>by
  rw[z2N hi,z2N hi]
  refine y3Y fun j hj=>?_
  by_cases hjt:j=t
  ·rw[hjt];exact .inl w0
  ·exact .inr (sk i hi hit j hj hjt).symm
 have s2:scr T W' m t≤scr T' W' m t:=by
  rw[z2N R.ht,z2N R.ht]
  refine x2t e1 fun j hj=>?_
  unfold sk2
  have c:t<m∧j<m:=⟨R.ht,hj⟩
  rw[if_pos c,if_pos c]
  have a1:=R.more j hj
  have a2:=R.lose (b:=j) hj
  revert a1 a2
  cases at2 T t j <;> cases at2 T' t j <;> cases at2 T j t <;> cases at2 T' j t <;> decide
 have ev:evB T m W'=true:=(y3G h0 hl').mpr ⟨e1,e2,fun i hi hp=>by
  by_cases hit:i=t
  ·rw[hit,w0]at hp
   exact absurd hp (by omega)
  ·rw[s1 i hi hit];exact e3 i hi hp,fun i hi hp=>by
  by_cases hit:i=t
  ·rw[hit]
   have:=e4 t R.ht hc
   omega
  ·rw[s1 i hi hit];exact e4 i hi hp⟩
 exact ev_in h0 hl' hl ev he t R.ht h
end
section
variable{g h:SS->Option Out}{s:SS}{o:Out}
theorem alt_l(e:g s=some o):altO g h s=some o:=by unfold altO;rw[e]
end
theorem y4a{bs:List (Int×List Int)}{k:Nat}(h:k≤bs.length):cut3 (some (z3Z bs)) (some none) (some (some (k:Int)))=some ((bs.take k).map z1H):=by
 show some (z4W (bs.map z1H) none (some (k:Int)))=_
 rw[y1f (by rw[ah];exact h),←c4]
theorem z9H{bs:List (Int×List Int)}{k:Nat}:cut3 (some (z3Z bs)) (some (some (k:Int))) (some none)=some ((bs.drop k).map z1H):=by
 show some (z4W (bs.map z1H) (some (k:Int)) none)=_
 rw[y0S,←c5]
def y0R(bs:List (Int×List Int))(k:Nat)(b:Int×List Int):List (Int×List Int):=bs.take k++[b]++bs.drop (k+1)
section
variable{bs:List (Int×List Int)}{k:Nat}{v:Int}{o:List Int}{t:Int}
theorem put_cat(h:k<bs.length)(hl:bs.length≤1000){b:Int×List Int}:x0I (some (.lst ((bs.take k).map z1H))) (some (.lst [z1H b]))=some ((bs.take k++[b]).map z1H)∧x0I (some (.lst ((bs.take k++[b]).map z1H))) (some (.lst ((bs.drop (k+1)).map z1H)))=some ((y0R bs k b).map z1H):=by
 constructor
 ·rw[y3Q (by simp;omega),aD]
  rfl
 ·rw[y3Q (by simp;omega)]
  unfold y0R
  rw[←aD]
theorem y6Z(h:bs[k]? = some (v,o))(hl:bs.length≤1000)(ho:o.length≤1000)(ht:t∈o)(hp:plc o t≠0):z1D [z3Z bs,.int (k:Int),.int t]=some (.val (z3Z (y0R bs k (v,upO o t)))):=by
 refine y2g rfl ?_
 have hk:k<bs.length:=(aP.mp h).1
 have ix:ixD (z3Z bs) (.int (k:Int))=some (z1H (v,o)):=by
  show atI (bs.map z1H) (k:Int)=_
  exact z1M (by rw[aB,h];rfl)
 have im:y5R (some (z1H (v,o)))=some (z1H (v,o)):=y3C (z2X o |> fun z=>by show(true&&((z3g o).imm&&true))=true;rw[show(z3g o).imm=true from z];rfl)
 have b0:ixD (z1H (v,o)) (.int 0)=some (.int v):=y2t
 have b1:ixD (z1H (v,o)) (.int 1)=some (z3g o):=z7p
 have ro:=z6U ho ht hp
 have tb:D.tup [.int v,z3g (upO o t)]=z1H (v,upO o t):=rfl
 obtain⟨c1,c2⟩:=put_cat hk hl (b:=(v,upO o t))
 have a1:y3L (.int (k:Int)) (.int 1)=some (.int ((k+1:Nat):Int)):=by rw[y4F];congr 2
 have ct:=y4a (bs:=bs) (k:=k) (by omega)
 have cd:=z9H (bs:=bs) (k:=k+1)
 have fl:=z1R (z5b (y0R bs k (v,upO o t)))
 have rt:D.lst ((y0R bs k (v,upO o t)).map z1H)=z3Z (y0R bs k (v,upO o t)):=rfl
 obtain⟨X,hX⟩:∃X,X=y0R bs k (v,upO o t):=⟨_,rfl⟩
 obtain⟨Y,hY⟩:∃Y,Y=bs.take k++[(v,upO o t)]:=⟨_,rfl⟩
 rw[←hX]at c2 fl rt ⊢
 rw[←hY]at c1 c2
 simp! only[z2t,ix,im,b0,b1]
 refine⟨_,alt_l ?_,rfl⟩
 simp! only[b0,b1,ro,tb,ct,cd,a1,c1,c2,fl,rt]
end
theorem up_perm{o:List Int}{t:Int}(ht:t∈o)(hp:plc o t≠0):(upO o t).Perm o:=by
 have lt:=y0K ht
 have gt:=z9o ht
 obtain⟨p,hpp⟩:∃p,plc o t=p+1:=⟨plc o t - 1,by omega⟩
 have up:upO o t=o.take p++[t,o[p]'(by omega)]++o.drop (p+2):=by
  unfold upO
  rw[hpp,c8,ac (by omega)]
  rfl
 have e:o=o.take p++[o[p]'(by omega),t]++o.drop (p+2):=by
  have h1:o.drop p=o[p]'(by omega)::o.drop (p+1):=aM (by omega)
  have h2:o.drop (p+1)=o[p+1]'(by omega)::o.drop (p+2):=aM (by omega)
  have h3:o[p+1]'(by omega)=t:=by
   have:=gt
   simp only[hpp]at this
   exact this
  rw[aR]
  show o=o.take p++(o[p]'(by omega)::t::o.drop (p+2))
  rw[h3]at h2
  rw[←h2,←h1,bS]
 rw[up]
 have pm:([t,o[p]'(by omega)]:List Int).Perm [o[p]'(by omega),t]:=List.Perm.swap _ _ _
 exact((pm.append_left (o.take p)).append_right (o.drop (p+2))).trans (by rw[←e])
theorem z1B{x y:Int}{r:List Int}:plc (y::r) x=if y=x then 0 else plc r x+1:=by
 unfold plc
 rw[List.findIdx_cons]
 by_cases h:y=x
 ·rw[if_pos h,beq_iff_eq.mpr h];rfl
 ·rw[if_neg h,beq_eq_false_iff_ne.mpr h];rfl
theorem z6N{x:Int}{A r:List Int}:plc (A++r) x=if plc A x<A.length then plc A x else plc r x+A.length:=by
 unfold plc
 exact List.findIdx_append
theorem y2Z{o:List Int}{t:Int}(ht:t∈o)(hp:plc o t≠0):∃A y B,o=A++y::t::B∧upO o t=A++t::y::B∧y≠t∧¬ plc A t<A.length:=by
 have lt:=y0K ht
 have gt:=z9o ht
 obtain⟨p,hpp⟩:∃p,plc o t=p+1:=⟨plc o t - 1,by omega⟩
 have up:upO o t=o.take p++[t,o[p]'(by omega)]++o.drop (p+2):=by
  unfold upO
  rw[hpp,c8,ac (by omega)]
  rfl
 have e:o=o.take p++o[p]'(by omega)::t::o.drop (p+2):=by
  have h1:o.drop p=o[p]'(by omega)::o.drop (p+1):=aM (by omega)
  have h2:o.drop (p+1)=o[p+1]'(by omega)::o.drop (p+2):=aM (by omega)
  have h3:o[p+1]'(by omega)=t:=by
   have:=gt
   simp only[hpp]at this
   exact this
  rw[h3]at h2
  rw[←h2,←h1,bS]
 obtain⟨A,hA⟩:∃A,A=o.take p:=⟨_,rfl⟩
 obtain⟨y,hy⟩:∃y,y=o[p]'(by omega):=⟨_,rfl⟩
 obtain⟨B,hB⟩:∃B,B=o.drop (p+2):=⟨_,rfl⟩
 have lA:A.length=p:=by rw[hA,cQ];omega
 rw[←hA,←hy,←hB]at e up
 have hq:=hpp
 rw[e,z6N,z1B]at hq
 refine⟨A,y,B,e,by rw[up];simp,fun z=>?_,fun z=>?_⟩
 ·rw[if_pos z]at hq
  split at hq <;> omega
 ·rw[if_pos z]at hq
  omega
theorem up_same{o:List Int}{t:Int}(ht:t∈o)(hp:plc o t≠0){i j:Int}(hi:i≠t)(hj:j≠t):ahd (upO o t) i j=ahd o i j:=by
 obtain⟨A,y,B,e1,e2,hy,_⟩:=y2Z ht hp
 have q:∀x,x≠t->plc (A++t::y::B) x=(if plc A x<A.length then plc A x else(if y=x then 0 else plc B x+1)+1+A.length)∧plc (A++y::t::B) x=(if plc A x<A.length then plc A x else(if y=x then 0 else plc B x+1+1)+A.length):=fun x hx=>by
  rw[z6N,z1B,if_neg (Ne.symm hx),z1B,z6N,z1B,z1B,if_neg (Ne.symm hx)]
  exact⟨rfl,rfl⟩
 unfold ahd
 rw[e2,(q i hi).1,(q j hj).1,e1,(q i hi).2,(q j hj).2]
 congr 1
 rw[eq_iff_iff]
 by_cases hij:i=j
 ·subst hij
  simp
 ·repeat' split
  all_goals omega
theorem up_more{o:List Int}{t:Int}(ht:t∈o)(hp:plc o t≠0){j:Int}(hj:j≠t)(h:ahd o t j=true):ahd (upO o t) t j=true:=by
 obtain⟨A,y,B,e1,e2,hy,ha⟩:=y2Z ht hp
 have q1:plc (A++t::y::B) t=A.length:=by rw[z6N,if_neg ha,z1B,if_pos rfl];omega
 have q2:plc (A++y::t::B) t=A.length+1:=by rw[z6N,if_neg ha,z1B,if_neg hy,z1B,if_pos rfl];omega
 have q3:plc (A++t::y::B) j=if plc A j<A.length then plc A j else(if y=j then 0 else plc B j+1)+1+A.length:=by rw[z6N,z1B,if_neg (Ne.symm hj),z1B]
 have q4:plc (A++y::t::B) j=if plc A j<A.length then plc A j else(if y=j then 0 else plc B j+1+1)+A.length:=by rw[z6N,z1B,z1B,if_neg (Ne.symm hj)]
 unfold ahd at h ⊢
 rw[decide_eq_true_eq]at h ⊢
 rw[e1,q2,q4]at h
 rw[e2,q1,q3]
 by_cases h2:plc A j<A.length
 ·rw[if_pos h2]at h ⊢
  omega
 ·rw[if_neg h2]at h ⊢
  by_cases h4:y=j
  ·rw[if_pos h4]at h ⊢
   omega
  ·rw[if_neg h4]at h ⊢
   omega
theorem z9O{x y:List (Int×List Int)}{i j:Int}:z4x (x++y) i j=z4x x i j+z4x y i j:=by
 unfold z4x
 rw[aD,bR]
theorem y9f{b:Int×List Int}{i j:Int}:z4x [b] i j=if ahd b.2 i j=true then b.1 else -b.1:=by
 unfold z4x
 simp
theorem y3d{bs:List (Int×List Int)}{k:Nat}{b:Int×List Int}(h:bs[k]? = some b):bs=bs.take k++[b]++bs.drop (k+1):=by
 obtain⟨hk,e⟩:=aP.mp h
 rw[aR]
 show bs=bs.take k++b::bs.drop (k+1)
 rw[←e,←aM hk,bS]
section
variable{m:Nat}{bs:List (Int×List Int)}{k:Nat}{v:Int}{o:List Int}{t:Nat}
theorem Vts.put(V:Vts m bs)(h:bs[k]? = some (v,o))(ht:t<m)(hp:plc o (t:Int)≠0):Vts m (y0R bs k (v,upO o (t:Int))):=by
 have hg:=V.good _ (bx h)
 have hmem:((t:Nat):Int)∈o:=hg.mem ht
 have hb:=y3d h
 have mem:∀x∈y0R bs k (v,upO o (t:Int)),x∈bs∨x=(v,upO o (t:Int)):=fun x hx=>by
  unfold y0R at hx
  rcases ar.mp hx with hx | hx
  ·rcases ar.mp hx with hx | hx
   ·exact .inl (List.mem_of_mem_take hx)
   ·exact .inr (aq.mp hx)
  ·exact .inl (eK hx)
 refine⟨fun x hx=>?_,?_,fun x hx=>?_⟩
 ·rcases mem x hx with z | rfl
  ·exact V.good x z
  ·exact⟨(up_perm hmem hp).trans hg.perm⟩
 ·have:=V.odd
  rw[hb]at this
  unfold z5m y0R at *
  simpa using this
 ·rcases mem x hx with z | rfl
  ·exact V.pos x z
  ·exact V.pos (v,o) (bx h)
theorem rse_of(V:Vts m bs)(h:bs[k]? = some (v,o))(ht:t<m)(hp:plc o (t:Int)≠0):Rse m (y1O m bs) (y1O m (y0R bs k (v,upO o (t:Int)))) t:=by
 have hg:=V.good _ (bx h)
 have hmem:((t:Nat):Int)∈o:=hg.mem ht
 have hv:0≤v:=V.pos _ (bx h)
 have V':=V.put h ht hp
 have l1:∀i j,z4x bs i j=z4x (bs.take k) i j+(if ahd o i j=true then v else -v)+z4x (bs.drop (k+1)) i j:=fun i j=>by
  conv=>lhs;rw[y3d h]
  rw[z9O,z9O,y9f]
 have l2:∀i j,z4x (y0R bs k (v,upO o (t:Int))) i j=z4x (bs.take k) i j+(if ahd (upO o (t:Int)) i j=true then v else -v)+z4x (bs.drop (k+1)) i j:=fun i j=>by
  unfold y0R
  rw[z9O,z9O,y9f]
 refine⟨z6I V.good V.odd,z6I V'.good V'.odd,ht,fun i hi j hj hit hjt=>?_,fun j hj hz=>?_⟩
 ·rw[z5k hi hj,z5k hi hj,l1,l2,up_same hmem hp (by omega) (by omega)]
 ·rw[z5k ht hj,aA,decide_eq_true_eq]at hz ⊢
  refine⟨hz.1,?_⟩
  have hjt:j≠t:=fun z=>by
   rw[z]at hz
   simp at hz
  have h3:=hz.2
  rw[l1]at h3
  rw[l2]
  cases e:ahd o (t:Int) (j:Int)with
  |true=>
   rw[e,if_pos rfl]at h3
   rw[up_more hmem hp (by omega) e,if_pos rfl]
   exact h3
  |false=>
   rw[e,if_neg ak]at h3
   split <;> omega
end
theorem y4e{m:Nat}{T:List (List Bool)}(sq:Sq m T){i j:Nat}(hi:i<m)(hj:j<m):∃r,ixD (z0F T) (.int (i:Int))=some (z5a r)∧ixD (z5a r) (.int (j:Int))=some (.bl (at2 T i j)):=by
 have h1:i<T.length:=by rw[sq.1];exact hi
 have h2:j<(T[i]).length:=by rw[sq.2 _ (bL h1)];exact hj
 refine⟨T[i],?_,?_⟩
 ·show atI (T.map z5a) (i:Int)=_
  exact z1M (by rw[aB,ac h1];rfl)
 ·show atI (T[i].map bD) (j:Int)=_
  refine z1M ?_
  rw[aB,ac h2]
  have e:T.getD i []=T[i]:=by rw[aH,ac h1];rfl
  unfold at2
  rw[e,aH,ac h2]
  rfl
theorem kept_eq{m:Nat}{T T':List (List Bool)}{t:Nat}(R:Rse m T T' t)(hm:m≤8):z2R [z0F T,z0F T',.int (t:Int)]=some (.bl true):=by
 refine z0p rfl ?_
 have ln:z2g [z0F T]=some (.int (m:Int)):=by rw[z1Z,R.F.sq.1]
 have rg:=z1u (show m≤1000000 by omega)
 simp! only[z4m,ln,rg]
 refine z0z (I:=fun s=>∃o3 o4,s=[some (.sh (z0F T)),some (.sh (z0F T')),some (.sh (.int (t:Int))),o3,o4]) ?_ ?_
 ·refine z9E (fun _ s=>∃o3 o4,s=[some (.sh (z0F T)),some (.sh (z0F T')),some (.sh (.int (t:Int))),o3,o4]) ⟨_,_,rfl⟩ ?_ fun s z=>⟨s,rfl,z⟩
  rintro i hi s ⟨o3,o4,rfl⟩
  have zi:(0:Int)+(i:Int)=(i:Int):=by omega
  simp! only[ln,rg,zi]
  refine z9E (fun _ s=>∃o4,s=[some (.sh (z0F T)),some (.sh (z0F T')),some (.sh (.int (t:Int))),some (.sh (.int (i:Int))),o4]) ⟨_,rfl⟩ ?_ fun s ⟨o4,z⟩=>⟨_,o4,z⟩
  rintro j hj s ⟨o4,rfl⟩
  have zj:(0:Int)+(j:Int)=(j:Int):=by omega
  obtain⟨r,e1,e2⟩:=y4e R.F.sq hi hj
  obtain⟨r',e3,e4⟩:=y4e R.F'.sq hi hj
  by_cases h1:i=t
  ·have d1:decide ((i:Int)=(t:Int))=true:=decide_eq_true (by omega)
   simp_all! only[zj,d1,z0c]
   exact⟨_,rfl⟩
  ·have d1:decide ((i:Int)=(t:Int))=false:=decide_eq_false (by omega)
   by_cases h2:j=t
   ·have d2:decide ((j:Int)=(t:Int))=true:=decide_eq_true (by omega)
    simp_all! only[zj,d1,d2,z0c]
    exact⟨_,rfl⟩
   ·have d2:decide ((j:Int)=(t:Int))=false:=decide_eq_false (by omega)
    rw[R.same i hi j hj h1 h2]at e4
    have bb:neD (.bl (at2 T i j)) (.bl (at2 T i j))=some (.bl false):=ne_same okN_bl (by omega)
    simp_all! only[zj,d1,d2,e1,e2,e3,e4,bb,z0c]
    exact⟨_,rfl⟩
 ·rintro s ⟨o3,o4,rfl⟩
  have cx:∀p q,z2c (some (z2h 0 m)) (z1J (z6u (z0u (d2 ixD (d2 ixD (z0d 0) (z0d 2)) (z0d 5))) (z4h (z0u (d2 ixD (d2 ixD (z0d 1) (z0d 2)) (z0d 5))))) (z0d 5) [some (z0F T),some (z0F T'),some (.int (t:Int)),p,q])=some []:=fun p q=>by
   rw[z1p]
   refine(z8N (enc:=nD) (xs:=ad m) (fun _=>false) nD (by simp;omega) (fun j hj=>?_) fun j _ h=>nomatch h).trans (by simp)
   have hj:=ai.mp hj
   obtain⟨r,e1,e2⟩:=y4e R.F.sq R.ht hj
   obtain⟨r',e3,e4⟩:=y4e R.F'.sq R.ht hj
   cases h:at2 T t j with
   |false=>
    rw[h]at e2
    simp_all! only[nD,e1,e2]
   |true=>
    rw[h]at e2
    rw[R.more j hj h]at e4
    simp_all! only[nD,e1,e2,e3,e4]
  have l0:z2g [.lst []]=some (.int 0):=rfl
  have q0:eqD (.int 0) (.int 0)=some (.bl true):=rfl
  simp! only[ln,rg,cx,l0,q0,z0c]
theorem cx_now{x y z w x' y' z' w':Bool}(h1:x=true->x'=true)(h2:y=true->y'=true)(h3:z=true->z'=true)(h4:w=true->w'=true){a0 a1 a2 a3 a4 a5 a7 a8 a9:Option D}:
  z2c (some (z2h 0 4)) (z1J (z6u (z0u (d2 ixD (z0d 6) (z0d 11))) (z4h (z0u (d2 ixD (z0d 10) (z0d 11))))) (z0d 11) [a0,a1,a2,a3,a4,a5,some (.tup [.bl x,.bl y,.bl z,.bl w]),a7,a8,a9,some (.tup [.bl x',.bl y',.bl z',.bl w'])])=some []:=by
 rw[show z2h 0 4=(ad 4).map nD from z1p]
 refine(z8N (enc:=nD) (xs:=ad 4) (fun _=>false) nD (by simp) (fun j hj=>?_) fun j _ h=>nomatch h).trans (by simp)
 have hj:=ai.mp hj
 obtain⟨b,b',e1,e2,hb⟩:∃b b':Bool,atI [D.bl x,.bl y,.bl z,.bl w] (j:Int)=some (.bl b)∧atI [D.bl x',.bl y',.bl z',.bl w'] (j:Int)=some (.bl b')∧(b=true->b'=true):=by
  have:j=0∨j=1∨j=2∨j=3:=by omega
  rcases this with rfl | rfl | rfl | rfl
  ·exact⟨x,x',rfl,rfl,h1⟩
  ·exact⟨y,y',rfl,rfl,h2⟩
  ·exact⟨z,z',rfl,rfl,h3⟩
  ·exact⟨w,w',rfl,rfl,h4⟩
 cases b with
 |false=>simp_all! only[nD,e1]
 |true=>
  rw[hb rfl]at e2
  simp_all! only[nD,e1,e2]
theorem law_true(ns:List Int)(hns:ns.length≤63):y5s [.scr ns]=some (.bl true):=by
 refine z0p rfl ?_
 have ln:z2g [.scr ns]=some (.int (ns.length:Int)):=rfl
 have p12:x1w (.int 10) (.int 12)=some (.int (10 ^ 12)):=y2M 12 (by omega)
 obtain⟨a12,e12⟩:∃a:Int,a=10 ^ 12:=⟨_,rfl⟩
 have g12:0<a12:=by rw[e12];decide
 rw[←e12]at p12
 simp! only[g_law,ln]
 refine z0z (I:=fun s=>∃(m:Nat) (f:Int),0<m∧m≤6∧0≤f∧f<10 ^ 12∧s=[some (.sh (.scr ns)),some (.sh (.int (m:Int))),some (.sh (.int f)),none,none,none,none,none,none,none,none]) ?_ ?_
 ·cases ns with
  |nil=>
   have d0:decide ((0:Int)<(([]:List Int).length:Int))=false:=rfl
   simp! only[d0,z0c]
   exact⟨_,rfl,1,0,by omega,by omega,by omega,by decide,rfl⟩
  |cons c r=>
   have d0:decide ((0:Int)<((c::r).length:Int))=true:=decide_eq_true (by simp)
   obtain⟨f,hf,f0,f1⟩:∃f:Int,z4y (.int c) (.int a12)=some (.int f)∧0≤f∧f<a12:=⟨_,z2D g12,cW _ (by omega),c9 _ g12⟩
   obtain⟨a,ea,ha⟩:=z8M (x:=f) (n:=6) (by omega)
   have m6:z4y (.int f) (.int 6)=some (.int (a:Int)):=by rw[z2D (by omega)];exact congrArg _ (congrArg _ ea)
   have a0:atI (c::r) 0=some c:=z1M (j:=0) rfl
   simp! only[d0,a0,p12,hf,m6,z0c]
   exact⟨_,rfl,1+a,f,by omega,by omega,f0,by rw[←e12];exact f1,rfl⟩
 rintro s ⟨m,f,h0,hm,f0,f1,rfl⟩
 obtain⟨_,ev,bs,rfl,V,hl⟩:=y7P h0 (show m≤8 by omega) ns hns
 have v6:y5P (.int f) (.int 6)=some (.int (f / 6)):=y0H ⟨by omega,by omega⟩
 obtain⟨t,et,ht⟩:=z8M (x:=f / 6) (n:=m) h0
 have mt:z4y (.int (f / 6)) (.int (m:Int))=some (.int (t:Int)):=by rw[z2D (by omega),et]
 have tv:=fun(bs:List (Int×List Int)) (V:Vts m bs) (hl:bs.length≤64)=>y4Y (m:=m) (by omega) (bs:=bs) (by omega) V.good V.odd
 obtain⟨W,S⟩:=x2J (z6I V.good V.odd) h0 (show m≤8 by omega)
 have te:=tv bs V hl
 have se:=z7b S ht
 simp! only[ev,v6,mt,te,se]
 have r12:x0R (some (.int 12))=some (z2h 0 12):=z1u (m:=12) (by omega)
 simp only[r12]
 refine z0z (I:=fun s=>True) ?_ ?_
 ·refine z9E (fun _ s=>∃bs W o7 o8 o9 o10,Vts m bs∧bs.length≤64∧Std (y1O m bs) m W∧s=[some (.sh (.scr ns)),some (.sh (.int (m:Int))),some (.sh (.int f)),some (.sh (z3Z bs)),some (.sh (.int (t:Int))),some (.sh (z0F (y1O m bs))),some (.sh (sD' (y1O m bs) m W t)),o7,o8,o9,o10]) ⟨bs,W,_,_,_,_,V,hl,S,rfl⟩ ?_ fun s z=>⟨s,rfl,trivial⟩
  clear V hl S te se ev
  rintro k hk s ⟨bs,W,o7,o8,o9,o10,V,hl,S,rfl⟩
  have zk:(0:Int)+(k:Int)=(k:Int):=by omega
  have v36:y5P (.int f) (.int 36)=some (.int (f / 36)):=y0H ⟨by omega,by omega⟩
  have u1:x2O (.int 5) (.int (k:Int))=some (.int (5*(k:Int))):=y7L (show CMul _ _ from .inl ⟨by decide,by decide⟩)
  have u2:x2O (.int (5*(k:Int))) (.int (k:Int))=some (.int (5*(k:Int)*(k:Int))):=y7L (show CMul _ _ from .inr ⟨by omega,by omega⟩)
  have u3:x2O (.int 7) (.int (k:Int))=some (.int (7*(k:Int))):=y7L (show CMul _ _ from .inl ⟨by decide,by decide⟩)
  have lv:z2g [z3Z bs]=some (.int (bs.length:Int)):=by
   show some (D.int ((bs.map z1H).length:Int))=_
   rw[ah]
  have hb0:0<bs.length:=by
   cases bs with
   |nil=>exact absurd V.odd (by decide)
   |cons b r=>simp
  obtain⟨c,hc⟩:∃c:Int,c=f / 36+5*(k:Int)*(k:Int)+7*(k:Int):=⟨_,rfl⟩
  obtain⟨q,eq,hq⟩:=z8M (x:=c) (n:=bs.length) hb0
  have mq:z4y (.int c) (.int (bs.length:Int))=some (.int (q:Int)):=by rw[z2D (by omega),eq]
  obtain⟨⟨v,o⟩,hb⟩:∃b,bs[q]? = some b:=⟨_,ac hq⟩
  have hg:=V.good _ (bx hb)
  have hol':o.length=m:=hg.len
  have ix:ixD (z3Z bs) (.int (q:Int))=some (z1H (v,o)):=by
   show atI (bs.map z1H) (q:Int)=_
   exact z1M (by rw[aB,hb];rfl)
  have b1:ixD (z1H (v,o)) (.int 1)=some (z3g o):=z7p
  obtain⟨o0,ro,eo⟩:∃x r,o=x::r:=by
   cases o with
   |nil=>rw[←hol']at h0;exact absurd h0 (by decide)
   |cons x r=>exact⟨x,r,rfl⟩
  have x0:ixD (z3g o) (.int 0)=some (.int o0):=by rw[eo];exact y2X
  simp! only[zk,v36,u1,u2,u3,lv,←hc,mq,ix,b1,x0]
  by_cases hz:o0=(t:Int)
  ·rw[decide_eq_true hz]
   simp_all! only[z0c]
   exact⟨bs,W,_,_,_,_,V,hl,S,rfl⟩
  ·rw[decide_eq_false hz]
   have hp:plc o (t:Int)≠0:=by
    rw[eo,z1B,if_neg hz]
    omega
   have hmem:((t:Nat):Int)∈o:=hg.mem ht
   have re:=y6Z hb (by omega) (show o.length≤1000 by omega) hmem hp
   have R:=rse_of V hb ht hp
   have V':=V.put hb ht hp
   have hl':(y0R bs q (v,upO o (t:Int))).length≤64:=by
    unfold y0R
    simp
    omega
   obtain⟨bs',hbs⟩:∃x,x=y0R bs q (v,upO o (t:Int)):=⟨_,rfl⟩
   rw[←hbs]at re R V' hl'
   obtain⟨W',S'⟩:=x2J R.F' h0 (show m≤8 by omega)
   have te:=tv bs' V' hl'
   have se:=z7b S' ht
   have ke:=kept_eq R (show m≤8 by omega)
   have g1:=R.top
   have g2:(z9Z (y1O m bs) m).contains t=true->(z9Z (y1O m bs') m).contains t=true:=fun h=>by
    have e:∀T:List (List Bool),(z9Z T m).contains t=y5u T m t:=fun T=>y8q ht
    rw[e]at h ⊢
    exact R.unc h
   have g3:(crL (y1O m bs) m).contains t=true->(crL (y1O m bs') m).contains t=true:=fun h=>by
    have e:∀T:List (List Bool),(crL T m).contains t=crB T m t:=fun T=>y8q ht
    rw[e]at h ⊢
    exact R.cr h
   have g4:decide (W.getD t 0>0)=true->decide (W'.getD t 0>0)=true:=fun h=>decide_eq_true (R.wt h0 S.len S'.len S.ev S'.ev (of_decide_eq_true h))
   have r4:x0R (some (.int 4))=some (z2h 0 4):=z1u (m:=4) (by omega)
   have cx:∀a0 a1 a2 a3 a4 a5 a7 a8 a9,z2c (some (z2h 0 4)) (z1J (z6u (z0u (d2 ixD (z0d 6) (z0d 11))) (z4h (z0u (d2 ixD (z0d 10) (z0d 11))))) (z0d 11) [a0,a1,a2,a3,a4,a5,some (sD' (y1O m bs) m W t),a7,a8,a9,some (sD' (y1O m bs') m W' t)])=some []:=fun a0 a1 a2 a3 a4 a5 a7 a8 a9=>cx_now g1 g2 g3 g4
   have l0:z2g [.lst []]=some (.int 0):=rfl
   have q0:gtI (.int 0) (.int 0)=some (.bl false):=rfl
   simp_all! only[re,te,se,ke,r4,cx,l0,q0,z0c]
   exact⟨bs',W',_,_,_,_,V',hl',S',rfl⟩
 ·rintro s _
  simp! only[z0c]
end Prg
open PySem PySem.W PyProof.Rows
set_option maxRecDepth 100000 in
set_option maxHeartbeats 0 in
theorem PySem.Challenge.cw_askorder_k86_whole_raising_keeps_holds : PySem.Challenge.rw_askorder_k86_whole_raising_keeps.Holds := by
 w_on;o_law;k_head;(case hw=>w_witness2)
 k_fill
 refine Prg.walk (l:=PySem.Challenge.rw_askorder_k86_whole_raising_keeps) rfl rfl Prg.law_true (fun w h Y=>PySem.W.kIn_of Y) ?F
 case F=>
  intro w mg fa h KX G hmg
  refine' Prg.all_mk KX G hmg ?iZ ?iA ?iB ?gQ ?gB ?gR ?gg ?iC ?gS ?gC ?g9 ?ii ?iD ?iE ?gh ?f7 ?ij ?gD ?iO ?gi ?hJ ?hU ?fL ?iP ?iF ?i3 ?gE ?f8 ?hV ?iG ?gj ?i4 ?gl ?ik ?iH ?iQ ?gT ?il ?gF ?h9 ?gU ?gG ?fU ?fV ?gm ?f9 ?gH ?gI ?gW ?jd ?je ?c_law ?jf ?gd ?gX ?iJ ?i5 ?fP ?gn ?jg ?gY ?iR ?jh ?ji ?iI ?jj ?gJ ?i6 ?jk ?jl ?jm ?jn ?jo ?iS ?i7
  (case jd | je | c_law | jf | gd | iJ | fP | jg | gY | iR | jh | ji | iI | jj | gJ | i6 | jk | jl | jm | jn | jo | iS | i7=>k_is)
  (case iZ | iA | iB | gQ | gB | gR | gg | iC | gS | gC | g9 | ii | iD | iE | gh | f7 | ij | gD | iO | gi | hJ | hU | fL | iP | iF | i3 | gE | f8 | hV | iG | gj | i4 | gl | ik | iH | iQ | gT | il | gF | h9 | gU | gG | fU | fV | gm | f9 | gH | gI | gW=>exact⟨_,_,by k_is,L2.fun_mk (by k_is) (by k_is) (by k_is)⟩)
  (case gX | i5 | gn=>first | k_exc | kernel_rfl!)
